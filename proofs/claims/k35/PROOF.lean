import PyProof.Rows.All
import Wide.All
import OpenK.AllK
import Wide.FinOn
import Lean
import PyProof.EqAt
import PyProof.EqKinds
import PyProof.TupleCall
import PyProof.AttrMissHeap
import PySem.Challenge.RW_sealchain_k35_what_leans_on_a_row
set_option Elab.async false
set_option linter.all false
set_option maxRecDepth 100000
set_option bootstrap.genMatcherCode false
set_option compiler.extract_closed false
set_option maxHeartbeats 40000000
theorem mY {α:Type _}{a:α}(l:List α){k:List α}(h:a∈k):a∈l++k:=List.mem_append_right l h
theorem mZ {α:Type _}(b:α){a:α}{l:List α}(h:a∈l):a∈b::l:=List.mem_cons_of_mem b h
theorem mX {α:Type _}{a:α}{l:List α}:a∈a::l:=List.mem_cons_self
theorem oX {α β:Type _}{o:Option α}{f:α->Option β}{b:β}(h:o.bind f=some b):∃a,o=some a/\f a=some b:=Option.bind_eq_some_iff.mp h
theorem oY {α β:Type _}{f:α->β}{o:Option α}{b:β}(h:o.map f=some b):∃a,o=some a/\f a=b:=Option.map_eq_some_iff.mp h
def wX:=@PySem.wpAny_bind
def wY:=@PySem.wpAny_pure
def vZ:=@PySem.Heap.get?_push_of_some
def vY:=@PySem.Heap.get?_push_size
def vX:=@PySem.Heap.lt_size
def vW:=@PySem.Heap.SameBut.update
theorem vV {α:Type _}{l:List α}{i:Nat}{a:α}(h:l[i]? = some a):∃h:i<l.length,l[i]=a:=List.getElem?_eq_some_iff.mp h
theorem vU {α:Type _}{l:List α}{i:Nat}(h:i<l.length):l[i]? = some l[i]:=List.getElem?_eq_getElem h
theorem vT (n:Nat):n<=n:=Nat.le_refl n
theorem vS {a b:Nat}(h:a<b):a≠b:=Nat.ne_of_lt h
theorem vR {n m k:Nat}:n<=m->m<=k->n<=k:=Nat.le_trans
theorem vQ {n m k:Nat}:n<m->m<=k->n<k:=Nat.lt_of_lt_of_le
theorem vP {α:Type _}{a b:α}{l:List α}(h:b∈a::l):b=a∨b∈l:=List.mem_cons.mp h
theorem vO {α β:Type _}{b:β}{f:α->β}{l:List α}(h:b∈l.map f):∃a,a∈l/\f a=b:=List.mem_map.mp h
theorem vN {α:Type _}{a:α}{p:α->Bool}{l:List α}(h:a∈l.filter p):a∈l/\p a=true:=List.mem_filter.mp h
theorem vM {α:Type _}(p:α->Bool)(l:List α):(l.filter p).length<=l.length:=List.length_filter_le p l
theorem vL {α:Type _}{l:List α}{i:Nat}{a:α}(h:l[i]? = some a):a∈l:=List.mem_of_getElem? h
theorem vK {α:Type _}{a b:α}(h:some a=some b):a=b:=Option.some.inj h
theorem vJ {α β:Type _}(a:α)(f:α->Option β):(some a).bind f=f a:=rfl
theorem vI {α β:Type _}{as:List α}(f:α->β):(as.map f).length=as.length:=List.length_map f
theorem vH {α:Type _}{l:List α}:l.toArray.size=l.length:=rfl
theorem vG {α:Type _}{xs:Array α}:xs.toList.length=xs.size:=rfl
theorem vF {α:Type _}{l:List α}{i:Nat}{a:α}:l.getD i a=l[i]?.getD a:=List.getD_eq_getElem?_getD
theorem vE {α:Type _}{a:α}{as:List α}:(a::as).length=as.length+1:=rfl
theorem vC (a b:Bool):((a && b)=true)=(a=true/\b=true):=Bool.and_eq_true a b
theorem vB {α:Type _}{i j:Nat}{a:α}{l:List α}(h:i≠j):(l.set i a)[j]? = l[j]?:=List.getElem?_set_ne h
theorem vA {α β:Type _}{f:α->β}{l:List α}{i:Nat}:(l.map f)[i]? = Option.map f l[i]?:=List.getElem?_map
theorem uZ {α:Type _}{as bs:List α}:(as++bs).length=as.length+bs.length:=List.length_append
theorem uY {α β:Type _}{f:α->β}{a:α}{l:List α}:(a::l).map f=f a::l.map f:=rfl
theorem uX:false≠true:=Bool.false_ne_true
theorem uW {α β:Type _}{f:α->β}{l l':List α}:(l++l').map f=l.map f++l'.map f:=List.map_append
theorem uV:(false=true)=False:=Bool.false_eq_true
theorem uU {α:Type _}{x:Option α}(h:x.isSome=true):∃a,x=some a:=Option.isSome_iff_exists.mp h
theorem uT {α:Type _}{a b:α}(h:a∈[b]):a=b:=List.mem_singleton.mp h
theorem uS {α β:Type _}{b:β}{f:α->β}{l:List α}(h:∃a,a∈l/\f a=b):b∈l.map f:=List.mem_map.mpr h
theorem uR {α:Type _}{l:List α}{p:α->Bool}(h:l.all p=true):∀x∈l,p x=true:=List.all_eq_true.mp h
theorem uQ {α:Type _}(as:List α):as++[]=as:=List.append_nil as
theorem uP {α β γ:Type _}{g:β->γ}{f:α->β}{l:List α}:(l.map f).map g=l.map (g ∘ f):=List.map_map
theorem uO {α β:Type _}{x:α}{xs:List α}{f:α->List β}:(x::xs).flatMap f=f x++xs.flatMap f:=List.flatMap_cons
theorem uN (n:Nat):0<=n:=Nat.zero_le n
noncomputable section
namespace L2
open PySem PySem.Spec PyProof.Rows
abbrev cA:=Sum Int Str
noncomputable def tJ:cA->Value->Bool
 |.inl k,v=>Value.isInt k v
 |.inr x,v=>Value.isStrOf x v
noncomputable def Th (w:World):cA->Int
 |.inl k=>hashInt k
 |.inr x=>hashStr w x
theorem cN:∀ {k:cA}{v:Value},tJ k v=true->(∃i t,k=Sum.inl i/\v=Value.int i t)∨(∃x t,k=Sum.inr x/\v=Value.str x t)
 |.inl i,v,h=>by
  obtain⟨t,e⟩:=Value.isInt_shape (k:=i) (v:=v) h;exact .inl ⟨i,t,rfl,e⟩
 |.inr x,v,h=>by
  obtain⟨t,e⟩:=Value.isStrOf_shape (x:=x) (v:=v) h;exact .inr ⟨x,t,rfl,e⟩
theorem Dp (i:Int)(t:Tok):tJ (.inl i) (.int i t)=true:=by simp[tJ,Value.isInt]
theorem Dq (x:Str)(t:Tok):tJ (.inr x) (.str x t)=true:=by simp[tJ,Value.isStrOf]
theorem Mv (a b:Int):decide ((Sum.inl a:cA)=Sum.inl b)=(a == b):=by
 by_cases e:a=b
 ·subst e;simp
 ·have h:¬(Sum.inl a:cA)=Sum.inl b:=λq=>e (Sum.inl.inj q);rw[decide_eq_false h];exact(beq_eq_false_iff_ne.mpr e).symm
theorem Mw (a b:Str):decide ((Sum.inr a:cA)=Sum.inr b)=decide (a=b):=by
 by_cases e:a=b
 ·subst e;simp
 ·have h:¬(Sum.inr a:cA)=Sum.inr b:=λq=>e (Sum.inr.inj q);rw[decide_eq_false h,decide_eq_false e]
theorem Mx (a:Int)(b:Str):decide ((Sum.inl a:cA)=Sum.inr b)=false:=decide_eq_false (λq=>nomatch q)
theorem My (a:Str)(b:Int):decide ((Sum.inr a:cA)=Sum.inl b)=false:=decide_eq_false (λq=>nomatch q)
def cw (prog:Program)(w:World):PySem.KeyKind prog w cA where
 is:=tJ
 hash:=Th w
 inj:=λv a b ha hb=>by
  rcases cN ha with⟨i,t,rfl,rfl⟩|⟨x,t,rfl,rfl⟩
  ·rcases cN hb with⟨j,u,rfl,e⟩|⟨y,u,rfl,e⟩
   ·injection e with e1 _;rw[e1]
   ·exact nomatch e
  ·rcases cN hb with⟨j,u,rfl,e⟩|⟨y,u,rfl,e⟩
   ·exact nomatch e
   ·injection e with e1 _;rw[e1]
 byValue:=λk v h=>by
  rcases cN h with⟨i,t,rfl,rfl⟩|⟨x,t,rfl,rfl⟩<;>rfl
 pyHash:=λhv h=>by
  rcases cN hv with⟨i,t,rfl,rfl⟩|⟨x,t,rfl,rfl⟩
  ·exact wpAny_pyHash_int h
  ·exact wpAny_pyHash_str h
 eqBool:=λhu hv h=>by
  rcases cN hu with⟨i,t,rfl,rfl⟩|⟨x,t,rfl,rfl⟩
  ·rcases cN hv with⟨j,u,rfl,rfl⟩|⟨y,u,rfl,rfl⟩
   ·rw[Mv]at h;exact wpAny_eqBool_int h
   ·rw[Mx]at h;exact SeqAt.EqAt.int_str i t y u _ _ _ _ h
  ·rcases cN hv with⟨j,u,rfl,rfl⟩|⟨y,u,rfl,rfl⟩
   ·rw[My]at h;exact SeqAt.EqAt.str_int x t j u _ _ _ _ h
   ·rw[Mw]at h;exact wpAny_eqBool_str h
 «strs»:=λk x t v h=>by
  rcases cN h with⟨i,u,rfl,e⟩|⟨y,u,rfl,e⟩
  ·exact nomatch e
  ·injection e with e1 _;subst e1;cases v<;>rfl
theorem xK (prog:Program)(w:World)(i:Int)(t:Tok):(cw prog w).is (.inl i) (.int i t)=true:=Dp i t
theorem xL (prog:Program)(w:World)(x:Str)(t:Tok):(cw prog w).is (.inr x) (.str x t)=true:=Dq x t
inductive V where
 |non|bl (b:Bool)|int (i:Int)|str (x:Str)|byt (b:Array UInt8)|flt (b:UInt64)|ref (a:Addr)|ty (n:String)
 deriving DecidableEq
def ba:V->Value->Prop
 |.non,u=>u=Value.none
 |.bl b,u=>u=Value.bool b
 |.int i,u=>∃t,u=Value.int i t
 |.str x,u=>∃t,u=Value.str x t
 |.byt b,u=>∃t,u=Value.bytes b t
 |.flt b,u=>∃t,u=Value.float b t
 |.ref a,u=>u=Value.ref a
 |.ty n,u=>u=Value.type n
abbrev aX:List V->List Value->Prop:=Paired ba
theorem aX.length (r:aX xs us):xs.length=us.length:=Paired.length r
theorem aX.get:∀ {xs:List V}{us:List Value}{i:Nat}{x:V},aX xs us->xs[i]? = some x->∃u,us[i]? = some u/\ba x u
 |_,_,_,_,.nil,e=>by simp at e
 |_,_,0,_,.cons r _,e=>by simp at e;subst e;exact⟨_,rfl,r⟩
 |_,_,i+1,x,.cons _ t,e=>by
  obtain⟨u,h1,h2⟩:=aX.get (i:=i) (x:=x) t (by simpa using e);exact⟨u,by simpa using h1,h2⟩
theorem aX.set (r:ba x u):∀ {xs:List V}{us:List Value}(i:Nat),aX xs us->aX (xs.set i x) (us.set i u)
 |_,_,_,.nil=>.nil
 |_,_,0,.cons _ t=>.cons r t
 |_,_,i+1,.cons q t=>.cons q (aX.set r i t)
theorem aX.append:∀ {xs ys:List V}{us ws:List Value},aX xs us->aX ys ws->aX (xs++ys) (us++ws)
 |_,_,_,_,.nil,s=>s
 |_,_,_,_,.cons r t,s=>.cons r (aX.append t s)
theorem aX.take:∀ {xs:List V}{us:List Value}(n:Nat),aX xs us->aX (xs.take n) (us.take n)
 |_,_,0,_=>.nil
 |_,_,_+1,.nil=>.nil
 |_,_,n+1,.cons r t=>.cons r (aX.take n t)
theorem aX.drop:∀ {xs:List V}{us:List Value}(n:Nat),aX xs us->aX (xs.drop n) (us.drop n)
 |_,_,0,r=>r
 |_,_,_+1,.nil=>.nil
 |_,_,n+1,.cons _ t=>aX.drop n t
theorem aX.none_of:∀ {xs:List V}{us:List Value}{i:Nat},aX xs us->xs[i]? = none->us[i]? = none:=λ{xs us i} r e=>by
 have h1:=r.length;have h2:xs.length<=i:=List.getElem?_eq_none_iff.mp e;exact List.getElem?_eq_none_iff.mpr (by omega)
def p6:Option V->Option Value->Prop
 |some v,some u=>ba v u
 |none,none=>True
 |_,_=>False
def KV {κ:Type}:List (κ×V)->List (κ×Value)->Prop:=Paired λ(p:κ×V) (q:κ×Value)=>p.1=q.1/\ba p.2 q.2
noncomputable def kV:cA->V
 |.inl i=>.int i
 |.inr x=>.str x
inductive HO where
  |lst (xs:List V)
  |tup (xs:List V)
  |dK (aI:List (cA×V)) (ob:Obj)|dT (aI:List (List cA×V))
  |set (S:Int->Bool) (n:Nat)
  |ins (C dx:Addr) (fs:List (Str×V))
  |own (x:Addr)
  |xd (fs:List (Str×V))
  |met (f x:Addr)
  |rng (lo hi:Int)
  |frz (o:Obj) (u:HO)
  |tbl (q:Str)
  |ext (φ:Heap->Prop)
abbrev Hp:=Addr->Option HO
noncomputable def upd (H:Hp)(a:Addr)(o:HO):Hp:=λb=>if b=a then some o else H b
theorem aG:upd H a o a=some o:=by unfold upd;rw[if_pos rfl]
theorem aK (h:b≠a):upd H a o b=H b:=by unfold upd;rw[if_neg h]
theorem IB:upd (upd H a o) a u=upd H a u:=by
 funext b;unfold upd;split<;>rfl
theorem PB {H:Hp}{a b:Addr}{o u:HO}(h:H a=some o)(h':H b=some u)(d:o≠u):a≠b:=by
 intro e;subst e;rw[h]at h';exact d (vK h')
theorem aY {H:Hp}{a b:Addr}{o:HO}(h:H a=some o)(h':H b=none):a≠b:=by
 intro e;subst e;rw[h]at h';cases h'
section
variable (P:Program) (w:World)
def bR (H:Hp)(h:Heap)(a:Addr):HO->Prop
 |.lst xs=>xs.length<=sizeLine/\∃(its:List Value)(n:Nat),aX xs its/\h.get? a=some { cls:=.type "list",data:=.seq its.toArray n }
 |.tup xs=>xs.length<=sizeLine/\∃its:List Value,aX xs its/\IsTup h a its.toArray
 |.dK aI ob=>h.get? a=some ob/\aI.length<=sizeLine/\(a == sysModules)=false/\∃vs,KV aI vs/\h.DictOf (cw P w) a vs
 |.dT aI=>aI.length<=sizeLine/\(a == sysModules)=false/\∃xs:List (List cA×Addr×Value),
   Paired (λ(p:List cA×V) (q:List cA×Addr×Value)=>p.1=q.1/\H q.2.1=some (.tup (p.1.map kV))/\ba p.2 q.2.2) aI xs /\
   ∃o es ep,h.get? a=some o/\o.ExactDict/\o.data=.dict es ep/\es.toList=xs.map (entryOfKey (tupleKind (cw P w)))/\(xs.map (·.1)).Nodup
 |.set S n=>h.SetOf (intKind P w) a S n
 |.ins C dx fs=>H dx=some (.own a)/\fs.length<=1000/\dx≠a/\h.get? a=some (PySem.W.instObj C dx) /\
   ∃mA,h.Ns1 dx mA/\(∀f,p6 (fs.lookup f) (mA f))/\PySem.Within mA (fs.map (·.1))
 |.own _=>∃o,h.get? a=some o
 |.xd fs=>∃mA,h.Ns1 a mA/\∀f,p6 (fs.lookup f) (mA f)
 |.rng lo hi=>∃t u v,h.get? a=some { cls:=.type "range",data:=.fields #[.int lo t,.int hi u,.int 1 v] }
 |.frz o u=>h.get? a=some o/\bR H h a u
 |.tbl q=>∃ps:Array Value,h.get? a=some { cls:=.none,data:=.fields ps }/\TriplesOk ps.toList/\∀pos cv,codeAmong pos ps.toList=some cv->∃(c:Addr)(oc:Obj)(u:HO)(vs:Array Value)(t:Tok),cv=.ref c/\H c=some (.frz oc u)/\oc.data=.fields vs/\vs[1]? = some (.str q t)
 |.met f x=>h.get? a=some (PySem.W.methodObj (.ref f) (.ref x))
 |.ext φ=>φ h/\(∃o,h.get? a=some o)/\∀h1 h2:Heap,φ h1->(∀o,h1.get? a=some o->h2.get? a=some o)->φ h2
def lz (H:Hp)(h:Heap):Prop:=∀a o,H a=some o->bR P w H h a o
end
section
variable {P:Program}{w:World}{H H':Hp}{h h':Heap}{a:Addr}{o:HO}
theorem bR.lt (x:bR P w H h a o):a<h.objs.size:=by
 cases o with
 |lst xs=>obtain⟨_,_,_,_,e⟩:=x;exact vX e
 |tup xs=>obtain⟨_,_,_,p⟩:=x;exact p.lt
 |dK aI ob=>exact vX (And.left x)
 |dT aI=>obtain⟨_,_,_,_,o,_,_,e,_⟩:=x;exact vX e
 |set S n=>obtain⟨o,_,_,_,e,_⟩:=x;exact vX e
 |ins C dx fs=>obtain⟨_,_,_,e,_⟩:=x;exact vX e
 |own y=>obtain⟨_,e⟩:=x;exact vX e
 |xd fs=>obtain⟨_,⟨_,_,_,e,_⟩,_⟩:=x;exact vX e
 |rng lo hi=>obtain⟨_,_,_,e⟩:=x;exact vX e
 |frz ob u=>obtain⟨e,_⟩:=x;exact vX e
 |tbl q=>obtain⟨_,e,_⟩:=x;exact vX e
 |met f y=>exact vX (show h.get? a=some _ from x)
 |ext φ=>obtain⟨_,⟨_,e⟩,_⟩:=x;exact vX e
theorem Paired.mapP {α β:Type}{F G:α->β->Prop}:∀ {l₁:List α}{l₂:List β},Paired F l₁ l₂->(∀a b,F a b->G a b)->Paired G l₁ l₂
 |_,_,.nil,_=>.nil
 |_,_,.cons r t,f=>.cons (f _ _ r) (Paired.mapP t f)
theorem bR.stay (x:bR P w H h a o)(k:∀b u,(b=a∨H b=some (.own a))->h.get? b=some u->h'.get? b=some u)
  (ho:∀b,H b=some (.own a)->H' b=some (.own a)) (ht:∀b xs,H b=some (.tup xs)->H' b=some (.tup xs)) (hf:∀b o u,H b=some (.frz o u)->H' b=some (.frz o u)):bR P w H' h' a o:=by
 induction o with
 |lst xs=>obtain⟨z,its,n,r,e⟩:=x;exact⟨z,its,n,r,k _ _ (.inl rfl) e⟩
 |tup xs=>obtain⟨z,its,r,ob,e,c⟩:=x;exact⟨z,its,r,ob,k _ _ (.inl rfl) e,c⟩
 |dK aI Wd=>obtain⟨g,z,y,vs,r,ob,es,ep,e,c⟩:=x;exact⟨k _ _ (.inl rfl) g,z,y,vs,r,ob,es,ep,k _ _ (.inl rfl) e,c⟩
 |dT aI=>
  obtain⟨z,y,xs,r,ob,es,ep,e,c⟩:=x;exact⟨z,y,xs,Paired.mapP r λp q z=>⟨z.1,ht _ _ z.2.1,z.2.2⟩,ob,es,ep,k _ _ (.inl rfl) e,c⟩
 |set S n=>obtain⟨ob,es,ep,t,e,c⟩:=x;exact⟨ob,es,ep,t,k _ _ (.inl rfl) e,c⟩
 |ins C dx fs=>
  obtain⟨d,z,ne,e,mA,⟨od,es,ep,e2,c⟩,r⟩:=x;exact⟨ho _ d,z,ne,k _ _ (.inl rfl) e,mA,⟨od,es,ep,k _ _ (.inr d) e2,c⟩,r⟩
 |own y=>obtain⟨ob,e⟩:=x;exact⟨ob,k _ _ (.inl rfl) e⟩
 |xd fs=>obtain⟨mA,⟨od,es,ep,e,c⟩,r⟩:=x;exact⟨mA,⟨od,es,ep,k _ _ (.inl rfl) e,c⟩,r⟩
 |rng lo hi=>obtain⟨t,u,v,e⟩:=x;exact⟨t,u,v,k _ _ (.inl rfl) e⟩
 |frz ob u ih=>obtain⟨e,q⟩:=x;exact⟨k _ _ (.inl rfl) e,ih q⟩
 |tbl q=>obtain⟨ps,e,t,c⟩:=x;exact⟨ps,k a _ (.inl rfl) e,t,λpos cv z=>let ⟨d,oc,u,vs,tk,z1,z2,z3⟩:=c pos cv z;⟨d,oc,u,vs,tk,z1,hf _ _ _ z2,z3⟩⟩
 |met f y=>
  have e:h.get? a=some (PySem.W.methodObj (.ref f) (.ref y)):=x;show h'.get? a=some (PySem.W.methodObj (.ref f) (.ref y));exact k a _ (.inl rfl) e
 |ext φ=>obtain⟨p,⟨o,e⟩,st⟩:=x;exact⟨st _ _ p λo q=>k _ _ (.inl rfl) q,⟨o,k _ _ (.inl rfl) e⟩,st⟩
theorem lz.lt (x:lz P w H h)(e:H a=some o):a<h.objs.size:=(x a o e).lt
theorem lz.fresh (x:lz P w H h)(e:h.objs.size<=a):H a=none:=by
 cases q:H a with
 |none=>rfl
 |some u=>exact absurd (vQ (x.lt q) e) (Nat.lt_irrefl _)
theorem lz.kept (x:lz P w H h)(k:∀b u,h.get? b=some u->h'.get? b=some u):lz P w H h':=λa o e=>
 (x a o e).stay (λb u _ q=>k b u q) (λ_ q=>q) (λ_ _ q=>q) λ_ _ _ q=>q
theorem lz.laid (x:lz P w H h)(k:∀b u,h.get? b=some u->h'.get? b=some u)(hp:h.objs.size<=a)(new:bR P w (upd H a o) h' a o):lz P w (upd H a o) h':=λb u e=>by
 have hn:=x.fresh hp;by_cases hb:b=a
 ·subst hb;rw[aG]at e;cases e;exact new
 ·rw[aK hb]at e;exact(x b u e).stay (λc v _ q=>k c v q) (λc q=>by rw[aK (aY q hn)];exact q) (λc xs q=>by rw[aK (aY q hn)];exact q) λc o xs q=>by rw[aK (aY q hn)];exact q
end
def Rd (H:Hp)(a:Addr)(u:HO):Prop:=H a=some u∨∃o,H a=some (.frz o u)
theorem Rd.of (h:H a=some u):Rd H a u:=.inl h
theorem Rd.ok (r:Rd H a u)(x:lz P w H h):bR P w H h a u:=by
 rcases r with r|⟨o,r⟩
 ·exact x a u r
 ·obtain⟨_,q⟩:=x a _ r;exact q
def PD:Option HO->Prop
 |some (.lst _)=>True
 |some (.dK _ _)=>True
 |some (.dT _)=>True
 |some (.set _ _)=>True
 |some (.ins _ _ _)=>True
 |some (.ext _)=>True
 |_=>False
section
variable {P:Program}{w:World}{H:Hp}{h h':Heap}{x e:Addr}{o':HO}
theorem lz.write (ok:lz P w H h)(mu:PD (H x))(he:e=x∨H e=some (.own x))(k:∀b u,b≠e->h.get? b=some u->h'.get? b=some u)(Ph:∃u,h'.get? e=some u)
  (new:bR P w (upd H x o') h' x o'):lz P w (upd H x o') h':=λb u q=>by
 have Rf:∀c y,H c=some (.own y)->c≠x:=λc y r z=>by subst z;rw[r]at mu;exact mu
 have Ui:∀c xs,H c=some (.tup xs)->c≠x:=λc xs r z=>by subst z;rw[r]at mu;exact mu
 by_cases hb:b=x
 ·subst hb;rw[aG]at q;cases q;exact new
 ·rw[aK hb]at q;by_cases hbe:b=e
  ·have q':H b=some (.own x):=by
    rcases he with z|z
    ·exact absurd (hbe.trans z) hb
    ·rw[hbe];exact z
   rw[q]at q';cases q';obtain⟨v,hv⟩:=Ph;exact⟨v,by rw[hbe];exact hv⟩
  ·refine(ok b u q).stay (λc v hc r=>k c v ?_ r) (λc r=>by rw[aK (Rf c b r)];exact r) (λc xs r=>by rw[aK (Ui c xs r)];exact r) λc o xs r=>by rw[aK (λz=>by subst z;rw[r]at mu;exact mu)];exact r
   rcases hc with rfl|hc
   ·exact hbe
   ·rintro rfl;rcases he with z|z
    ·exact Rf c b hc z
    ·rw[hc]at z;cases z;exact hb rfl
end
structure Un (fs ex:List Addr)(H H':Hp)(h h':Heap):Prop where
 keep:∀b o,h.get? b=some o->H b=none->b∉fs->b∉ex->h'.get? b=some o
 slot:∀b o,h.get? b=some o->H b=none->b∈fs->b∉ex->∃sl,h'.get? b=some { o with slots:=sl }
 free:∀b o,h.get? b=some o->H b=none->b∉ex->H' b=none
 there:∀b o,h.get? b=some o->b∉ex->∃o',h'.get? b=some o'
 tups:∀b xs,H b=some (.tup xs)->H' b=some (.tup xs)
 frzs:∀b o u,H b=some (.frz o u)->H' b=some (.frz o u)
 tbls:∀b q,H b=some (.tbl q)->H' b=some (.tbl q)
section
variable {fs Yh ex ex':List Addr}{H H1 H2:Hp}{h h1 h2 h':Heap}{a x e:Addr}{o:HO}
theorem Un.any (u:Un fs ex H H1 h h1)(q:h.get? b=some ob)(n:H b=none)(hx:b∉ex):∃sl,h1.get? b=some { ob with slots:=sl }:=by
 by_cases hb:b∈fs
 ·exact u.slot b ob q n hb hx
 ·exact⟨ob.slots,u.keep b ob q n hb hx⟩
theorem Un.trans (a:Un fs ex H H1 h h1)(b:Un fs ex H1 H2 h1 h2):Un fs ex H H2 h h2 where
 keep:=λc ob q n hc hx=>b.keep c ob (a.keep c ob q n hc hx) (a.free c ob q n hx) hc hx
 slot:=λc ob q n hc hx=>by
  obtain⟨sl,e1⟩:=a.slot c ob q n hc hx;obtain⟨Uj,e2⟩:=b.slot c _ e1 (a.free c ob q n hx) hc hx;exact⟨Uj,e2⟩
 free:=λc ob q n hx=>by
  obtain⟨o',e1⟩:=a.there c ob q hx;exact b.free c o' e1 (a.free c ob q n hx) hx
 there:=λc ob q hx=>by
  obtain⟨o',e1⟩:=a.there c ob q hx;exact b.there c o' e1 hx
 tups:=λc xs q=>b.tups c xs (a.tups c xs q)
 frzs:=λc ob xs q=>b.frzs c ob xs (a.frzs c ob xs q)
 tbls:=λc ps q=>b.tbls c ps (a.tbls c ps q)
theorem Un.kept (k:∀b u,h.get? b=some u->h'.get? b=some u):Un fs ex H H h h' :=
 ⟨λb ob q _ _ _=>k b ob q,λb ob q _ _ _=>⟨ob.slots,k b ob q⟩,λ_ _ _ n _=>n,λb ob q _=>⟨ob,k b ob q⟩,λ_ _ q=>q,λ_ _ _ q=>q,λ_ _ q=>q⟩
theorem Un.refl:Un fs ex H H h h:=Un.kept λ_ _ q=>q
theorem Un.laid (k:∀b u,h.get? b=some u->h'.get? b=some u)(hp:h.objs.size<=a)(hn:H a=none):Un fs ex H (upd H a o) h h' where
 keep:=λb u q _ _ _=>k b u q
 slot:=λb u q _ _ _=>⟨u.slots,k b u q⟩
 free:=λb u q n _=>by rw[aK (vS (vQ (vX q) hp))];exact n
 there:=λb u q _=>⟨u,k b u q⟩
 tups:=λb xs q=>by rw[aK (aY q hn)];exact q
 frzs:=λb u xs q=>by rw[aK (aY q hn)];exact q
 tbls:=λb ps q=>by rw[aK (aY q hn)];exact q
theorem Un.write (mu:PD (H x))(he:e=x∨H e=some (.own x))(k:∀b u,b≠e->h.get? b=some u->h'.get? b=some u)(Ph:∃u,h'.get? e=some u):Un fs ex H (upd H x o) h h':=by
 have hx:∀b,H b=none->b≠x:=λb n z=>by subst z;rw[n]at mu;exact mu
 have hb:∀b,H b=none->b≠e:=λb n z=>by
  subst z;rcases he with r|r
  ·exact hx b n r
  ·rw[n]at r;cases r
 have hm:∀b u,H b=some u->¬PD (some u)->b≠x:=λb u q nm z=>by subst z;rw[q]at mu;exact nm mu
 refine⟨λb u q n _ _=>k b u (hb b n) q,λb u q n _ _=>⟨u.slots,k b u (hb b n) q⟩,λb u q n _=>by rw[aK (hx b n)];exact n,λb u q _=>?_,
  λb xs q=>by rw[aK (hm b _ q λz=>z)];exact q,λb u xs q=>by rw[aK (hm b _ q λz=>z)];exact q,λb ps q=>by rw[aK (hm b _ q λz=>z)];exact q⟩
 by_cases hbe:b=e
 ·subst hbe;exact Ph
 ·exact⟨u,k b u hbe q⟩
end
noncomputable def So (h:Heap)(H:Hp):List Addr:=(List.range h.objs.size).filter λa=>(H a).isSome
def xM (h:Heap)(H:Hp):Heap:=PySem.W.hideAll h (So h H)
theorem Dr (h:Heap)(H:Hp):(xM h H).objs.size=h.objs.size:=PySem.W.hideAll_size _ _
theorem pX (e:h.get? b=some o)(n:H b=none):(xM h H).get? b=some o :=
 PySem.W.hideAll_get _ e λhm=>by
  have q:(H b).isSome=true:=(vN hm).2;rw[n]at q;simp at q
theorem IC (e:(xM h H).get? b=some o):h.get? b=some o/\H b=none:=by
 have e':h.get? b=some o:=PySem.W.of_hideAll (So h H) e;refine⟨e',?_⟩;cases q:H b with
 |none=>rfl
 |some x=>
  have hm:b∈So h H:=List.mem_filter.mpr ⟨List.mem_range.mpr (vX e'),by simp[q]⟩;have z:(xM h H).get? b=none:=PySem.W.hideAll_none (So h H) hm;rw[z]at e;cases e
noncomputable def ID (g h:Heap)(L:Addr):List (Addr×Obj):=(List.range h.objs.size).filterMap λa=>if a=L∨(g.get? a).isSome=true then none else (h.get? a).map λo=>(a,o)
def aF (g h:Heap)(L d:Addr):List (Addr×Obj):=(ID g h L).filter λp=>decide (p.1≠d)
structure Mod (K:PySem.W.Frag)(mg:Str->Option Value)(base:Heap):Prop where
 kin:K.In base
 glob:base.Ns mainGlobals mg
 blt:∃mb,base.Ns builtinsNs mb/\∀x:Str,x ≠ "__name__"->mb x=bootBuiltins x
 nolimit:base.NoLimit
 bmain:∃bm ob,mg "__builtins__" = some (.ref bm)/\bm≠builtinsNs/\base.get? bm=some ob/\ob.cls=.type "module"/\ob.dict=some builtinsNs/\ob.data=.plain
structure Cx where
 prog:Program
 w:World
 K:PySem.W.Frag
 mg:Str->Option Value
 base:Heap
 A:Around
 N:List Str
 s₀:Shared
 H₀:Hp
 env:Env
 outer:List Env
 stack:List Env
 ex:List Addr
 fn:Str->Bool
 calm:Bool
 pn:List (Addr×Obj)
 xe:Value->Shared->Prop
noncomputable def Ds (l:List Env):List Addr:=l.filterMap (·.frame)
abbrev Cx.fs (X:Cx):List Addr:=Ds X.outer
def EX (sc:Scope)(x:Str):Prop:=sc.names.lookup x=some .local∨sc.names.lookup x=some .cell∨sc.names.lookup x=some .free
def Ik (sc:Scope)(x:Str):Prop:=sc.names.lookup x=some .local∨sc.names.lookup x=some .cell
def Ti (env:Env)(h:Heap)(m:Str->Option Value)(x:Str)(u:Value):Prop :=
 (env.kindOf x=some .local/\m x=some u)∨((env.kindOf x=some .cell∨env.kindOf x=some .free)/\∃c,env.cells.lookup x=some c/\h.IsCell c (some u))
structure Cx.Ok (X:Cx):Prop where
 mod:Mod X.K X.mg X.base
 kind:X.env.scope.kind=.function
 glob:X.env.globals=mainGlobals
 blt:X.env.builtins=builtinsNs
 above:X.s₀.heap.objs.size<=X.env.locals
 inj:∀x y c,X.env.cells.lookup x=some c->X.env.cells.lookup y=some c->x=y
 has:∀x,(X.env.kindOf x=some .cell∨X.env.kindOf x=some .free)->∃c,X.env.cells.lookup x=some c
 cab:∀x c,X.fn x=true->X.env.cells.lookup x=some c->X.s₀.heap.objs.size<=c
 hd:X.calm=true->X.A.handled=none
 frames:X.A.frames=some X.stack
 stk:X.stack=X.outer∨(X.stack=X.env::X.outer/\X.env.frame=some X.env.locals)
 exf:∀b∈X.ex,b≠X.env.locals/\∀x c,X.env.cells.lookup x=some c->c≠b
 bs:∀b o,X.base.get? b=some o->X.s₀.heap.get? b=some o/\X.H₀ b=none
 bsz:X.base.objs.size<=X.s₀.heap.objs.size
 noex:∀b o,X.base.get? b=some o->b∉X.ex
 exfs:∀b∈X.ex,b∉X.fs
 funs:X.s₀.heap.FunFrames X.base X.outer
 frf:∀b∈X.fs,X.H₀ b=none
structure Inv (X:Cx)(ae:List (Addr×Obj))(σ:List (Option V))(H:Hp)(s:Shared):Prop where
 ok:X.Ok
 os:s.os=X.s₀.os
 bare:AllBare s.gens
 base:Un X.fs X.ex X.H₀ H X.s₀.heap s.heap
 loc:∃m,s.heap.Ns X.env.locals m/\∀(i:Nat)(x:Str)(v:V),X.N[i]? = some x->σ[i]? = some (some v)->EX X.env.scope x->∃u,ba v u/\Ti X.env s.heap m x u
 cell:∀x c,X.env.cells.lookup x=some c->∃v,s.heap.IsCell c v
 free:H X.env.locals=none
 freeC:∀x c,X.env.cells.lookup x=some c->H c=none
 pin:∀p∈X.pn++ae,s.heap.get? p.1=some p.2/\H p.1=none/\p.1≠X.env.locals/\p.1∉X.fs/\∀v,p.2.data≠.cell v
 hok:lz X.prog X.w H s.heap
 len:σ.length=X.N.length
section
variable {X:Cx}{ae:List (Addr×Obj)}{σ:List (Option V)}{H H':Hp}{s:Shared}{h':Heap}
theorem Cx.Ok.nofr (ok:X.Ok)(e:X.base.get? b=some o):b∉X.fs:=λhb=>by
 have:=(ok.funs.mem hb).1;rw[e]at this;cases this
theorem Inv.bs (I:Inv X ae σ H s):∀b o,X.base.get? b=some o->s.heap.get? b=some o/\H b=none:=λb o e=>
 ⟨I.base.keep b o (I.ok.bs b o e).1 (I.ok.bs b o e).2 (I.ok.nofr e) (I.ok.noex b o e),I.base.free b o (I.ok.bs b o e).1 (I.ok.bs b o e).2 (I.ok.noex b o e)⟩
theorem Inv.bk (I:Inv X ae σ H s):∀b o,X.base.get? b=some o->s.heap.get? b=some o:=λb o e=>(I.bs b o e).1
theorem Inv.mod (I:Inv X ae σ H s):Mod X.K X.mg X.base:=I.ok.mod
theorem Inv.kIn (I:Inv X ae σ H s):X.K.In s.heap:=I.ok.mod.kin.keeps I.bk
theorem Inv.nolimit (I:Inv X ae σ H s):s.heap.NoLimit:=I.ok.mod.nolimit.keeps I.bk
theorem Inv.lt (I:Inv X ae σ H s):X.env.locals<s.heap.objs.size:=let ⟨_,hn,_⟩:=I.loc;hn.lt
theorem Inv.sz (I:Inv X ae σ H s):X.s₀.heap.objs.size<=s.heap.objs.size:=vR I.ok.above (Nat.le_of_lt I.lt)
theorem Inv.nofs (I:Inv X ae σ H s)(h:s.heap.objs.size<=a):a∉X.fs:=λhb=>by
 obtain⟨_,o,ho,_⟩:=I.ok.funs.mem hb;exact absurd (vQ (vX ho) (vR I.sz h)) (Nat.lt_irrefl _)
theorem Inv.cne (I:Inv X ae σ H s):∀x c,X.env.cells.lookup x=some c->c≠X.env.locals:=λx c e z=>by
 obtain⟨v,o,ho,hd⟩:=I.cell x c e;obtain⟨m,⟨o',es,ep,xB,E7,_⟩,_⟩:=I.loc;rw[z,xB]at ho;cases ho;rw[E7]at hd;cases hd
theorem Inv.funs (I:Inv X ae σ H s):s.heap.FunFrames X.base X.outer:=by
 have all:∀(l:List Env),(∀b∈Ds l,b∈X.fs)->X.s₀.heap.FunFrames X.base l->s.heap.FunFrames X.base l:=by
  intro l;induction l with
  |nil=>intro _ _;trivial
  |cons env r ih=>
   intro hs hl;obtain⟨hk,⟨L,o,hf,hn,ho,hd⟩,hr⟩:=hl;have hL:L∈X.fs:=hs L (by unfold Ds;rw[List.filterMap_cons,hf];exact mX);obtain⟨sl,e⟩:=I.base.slot L o ho (I.ok.frf L hL) hL λz=>I.ok.exfs L z hL;exact⟨hk,⟨L,_,hf,hn,e,hd⟩,ih (λb hb=>hs b (by unfold Ds;rw[List.filterMap_cons,hf];exact mZ _ hb)) hr⟩
 exact all X.outer (λ_ hb=>hb) I.ok.funs
theorem Inv.stack (I:Inv X ae σ H s):s.heap.FunFrames X.base X.stack:=by
 rcases I.ok.stk with e|⟨e,hf⟩
 ·rw[e];exact I.funs
 ·rw[e];obtain⟨m,hn,_⟩:=I.loc;refine .cons (by rw[I.ok.kind];decide) hf hn ?_ I.funs;exact Heap.get?_none_of_le (vR I.ok.bsz I.ok.above)
theorem Inv.stkSub (I:Inv X ae σ H s):∀b∈Ds X.stack,b∈X.env.locals::X.fs:=λb hb=>by
 rcases I.ok.stk with e|⟨e,hf⟩
 ·rw[e]at hb;exact mZ _ hb
 ·rw[e]at hb;unfold Ds at hb;rw[List.filterMap_cons,hf]at hb;exact hb
theorem Inv.stkFree (I:Inv X ae σ H s):∀b∈Ds X.stack,H b=none:=λb hb=>by
 rcases vP (I.stkSub b hb)with e|hb
 ·rw[e];exact I.free
 ·obtain⟨_,o,ho,_⟩:=I.ok.funs.mem hb;exact I.base.free b o ho (I.ok.frf b hb) λz=>I.ok.exfs b z hb
theorem Inv.step {g':Array GenState}{t':Nat}{d':Drawn}{ch:List Addr}(I:Inv X ae σ H s)
  (pF:∀b∈ch,(b∈X.ex∨X.s₀.heap.objs.size<=b)/\b≠X.env.locals/\(∀x c,X.env.cells.lookup x=some c->c≠b)/\∀p∈X.pn++ae,p.1≠b)
  (keep:∀b o,b≠X.env.locals->b∉X.fs->b∉ch->s.heap.get? b=some o->H b=none->h'.get? b=some o)
  (slot:∀b o,b≠X.env.locals->b∈X.fs->b∉ch->s.heap.get? b=some o->H b=none->∃sl,h'.get? b=some { o with slots:=sl }) (free:∀b o,b∉ch->s.heap.get? b=some o->H b=none->H' b=none)
  (there:∀b o,b∉ch->s.heap.get? b=some o->∃o',h'.get? b=some o')
  (tups:∀b xs,H b=some (.tup xs)->H' b=some (.tup xs)) (frzs:∀b o u,H b=some (.frz o u)->H' b=some (.frz o u)) (tbls:∀b q,H b=some (.tbl q)->H' b=some (.tbl q))
  (ns:∀m,s.heap.Ns X.env.locals m->h'.Ns X.env.locals m) (hok:lz X.prog X.w H' h') (hg:AllBare g'):
  Inv X ae σ H' { s with heap:=h',gens:=g',drawn:=d',toks:=t' }:=by
 have We:∀b o,X.s₀.heap.get? b=some o->b≠X.env.locals:=λb o e=>vS (vQ (vX e) I.ok.above);have Pj:∀b o,X.s₀.heap.get? b=some o->b∉X.ex->b∉ch:=λb o e hx hb=>by
  rcases (pF b hb).1 with z|z
  ·exact hx z
  ·exact absurd (vQ (vX e) z) (Nat.lt_irrefl _)
 have Mb:∀x c,X.env.cells.lookup x=some c->∀v,s.heap.IsCell c v->h'.IsCell c v:=λx c e v ⟨o,ho,hd⟩=>by
  have Rg:c∉ch:=λz=>(pF c z).2.2.1 x c e rfl;by_cases hc:c∈X.fs
  ·obtain⟨sl,q⟩:=slot c o (I.cne x c e) hc Rg ho (I.freeC x c e);exact⟨_,q,hd⟩
  ·exact⟨o,keep c o (I.cne x c e) hc Rg ho (I.freeC x c e),hd⟩
 refine⟨I.ok,I.os,hg,⟨λb o e n hb hx=>?_,λb o e n hb hx=>?_,λb o e n hx=>?_,λb o e hx=>?_,λb xs e=>tups b xs (I.base.tups b xs e),λb o xs e=>frzs b o xs (I.base.frzs b o xs e),λb ps e=>?_⟩,?_,λx c e=>?_,?_,λx c e=>?_,λp hp=>?_,hok,I.len⟩
 ·exact keep b o (We b o e) hb (Pj b o e hx) (I.base.keep b o e n hb hx) (I.base.free b o e n hx)
 ·obtain⟨sl,e1⟩:=I.base.slot b o e n hb hx;obtain⟨Uj,e2⟩:=slot b _ (We b o e) hb (Pj b o e hx) e1 (I.base.free b o e n hx);exact⟨Uj,e2⟩
 ·obtain⟨o',e1⟩:=I.base.there b o e hx;exact free b o' (Pj b o e hx) e1 (I.base.free b o e n hx)
 ·obtain⟨o',e1⟩:=I.base.there b o e hx;exact there b o' (Pj b o e hx) e1
 ·exact tbls b _ (I.base.tbls b ps e)
 ·obtain⟨m,hn,hl⟩:=I.loc;refine⟨m,ns m hn,λi x v e1 e2 e3=>?_⟩;obtain⟨u,r,l⟩:=hl i x v e1 e2 e3;refine⟨u,r,?_⟩;rcases l with l|⟨k,c,e,z⟩
  ·exact .inl l
  ·exact .inr ⟨k,c,e,Mb x c e _ z⟩
 ·obtain⟨v,z⟩:=I.cell x c e;exact⟨v,Mb x c e v z⟩
 ·obtain⟨m,⟨o,_,_,ho,_⟩,_⟩:=I.loc;exact free _ o (λz=>(pF _ z).2.1 rfl) ho I.free
 ·obtain⟨v,o,ho,hd⟩:=I.cell x c e;exact free c o (λz=>(pF c z).2.2.1 x c e rfl) ho (I.freeC x c e)
 ·obtain⟨e,n,ne,nf,d⟩:=I.pin p hp;have Rg:p.1∉ch:=λz=>(pF p.1 z).2.2.2 p hp rfl;exact⟨keep p.1 p.2 ne nf Rg e n,free p.1 p.2 Rg e n,ne,nf,d⟩
theorem Inv.un {t':Nat}(I:Inv X ae σ H s)(u:Un X.fs [] H H' s.heap h')(hok:lz X.prog X.w H' h'):Inv X ae σ H' { s with heap:=h',toks:=t' }:=by
 obtain⟨m,⟨o,es,ep,ho,r⟩,_⟩:=id I.loc;obtain⟨sl,hL⟩:=u.any ho I.free (by simp);exact I.step (g':=s.gens) (d':=s.drawn) (ch:=[]) (λ_ z=>nomatch z) (λb o _ hb _ e n=>u.keep b o e n hb (by simp)) (λb o _ hb _ e n=>u.slot b o e n hb (by simp)) (λb o _ e n=>u.free b o e n (by simp)) (λb o _ e=>u.there b o e (by simp)) u.tups u.frzs u.tbls (λm' hm=>by
  obtain⟨o',EO,Pk,xB,r'⟩:=hm;rw[ho]at xB;cases xB;exact⟨_,EO,Pk,hL,r'⟩) hok I.bare
theorem Inv.call {g':Array GenState}{t':Nat}{d':Drawn}{ch:List Addr}(I:Inv X ae σ H s)(u:Un (Ds X.stack) ch H H' s.heap h')(hok:lz X.prog X.w H' h')(hg:AllBare g')
  (pF:∀b∈ch,(b∈X.ex∨X.s₀.heap.objs.size<=b)/\b≠X.env.locals/\(∀x c,X.env.cells.lookup x=some c->c≠b)/\∀p∈X.pn++ae,p.1≠b):
  Inv X ae σ H' { s with heap:=h',gens:=g',drawn:=d',toks:=t' }:=by
 obtain⟨m,⟨o,es,ep,ho,r⟩,_⟩:=id I.loc;obtain⟨sl,hL⟩:=u.any ho I.free λz=>(pF _ z).2.1 rfl;exact I.step (ch:=ch) pF (λb o hL hb hc e n=>u.keep b o e n (λz=>(vP (I.stkSub b z)).elim hL hb) hc) (λb o _ _ hc e n=>u.any e n hc) (λb o hc e n=>u.free b o e n hc) (λb o hc e=>u.there b o e hc) u.tups u.frzs u.tbls (λm' hm=>by
  obtain⟨o',EO,Pk,xB,r'⟩:=hm;rw[ho]at xB;cases xB;exact⟨_,EO,Pk,hL,r'⟩) hok hg
theorem Inv.turned {t':Nat}{it:Addr}(I:Inv X ae σ H s)(k:∀b o,b≠it->s.heap.get? b=some o->h'.get? b=some o)(hn:H it=none)(hL:it≠X.env.locals)
  (h1:it∈X.ex∨X.s₀.heap.objs.size<=it) (h2:∀x c,X.env.cells.lookup x=some c->c≠it) (h3:∀p∈X.pn++ae,p.1≠it):Inv X ae σ H { s with heap:=h',toks:=t' }:=by
 have Mc:∀b u,H b=some u->b≠it:=λb u e z=>by rw[z,hn]at e;cases e
 refine I.step (g':=s.gens) (d':=s.drawn) (ch:=[it]) (λb hb=>?_) (λb o _ _ hc e _=>k b o (λz=>hc (by simp[z])) e) (λb o _ _ hc e _=>⟨o.slots,k b o (λz=>hc (by simp[z])) e⟩) (λ_ _ _ _ n=>n)
  (λb o hc e=>⟨o,k b o (λz=>hc (by simp[z])) e⟩) (λ_ _ e=>e) (λ_ _ _ e=>e) (λ_ _ e=>e) (λm hm=>?_) (λb u e=>?_) I.bare
 ·have e:b=it:=by simpa using hb
  subst e;exact⟨h1,hL,h2,h3⟩
 ·obtain⟨o,es,ep,ho,r⟩:=hm;exact⟨o,es,ep,k _ o (Ne.symm hL) ho,r⟩
 ·refine(I.hok b u e).stay (λc v hc q=>k c v ?_ q) (λ_ q=>q) (λ_ _ q=>q) λ_ _ _ q=>q;rcases hc with z|z
  ·rw[z];exact Mc b u e
  ·exact Mc c _ z
theorem Inv.tok (I:Inv X ae σ H s)(t:Nat):Inv X ae σ H { s with toks:=t }:=I.un (h':=s.heap) (t':=t) Un.refl I.hok
theorem Inv.kept (I:Inv X ae σ H s)(k:∀b u,s.heap.get? b=some u->h'.get? b=some u):Inv X ae σ H { s with heap:=h',toks:=t' }:=I.un (Un.kept k) (I.hok.kept k)
theorem Inv.laid (I:Inv X ae σ H s)(k:∀b u,s.heap.get? b=some u->h'.get? b=some u)(hp:s.heap.objs.size<=a)(new:bR X.prog X.w (upd H a o) h' a o):
  Inv X ae σ (upd H a o) { s with heap:=h',toks:=t' }:=I.un (Un.laid k hp (I.hok.fresh hp)) (I.hok.laid k hp new)
theorem Inv.write (I:Inv X ae σ H s)(mu:PD (H x))(he:e=x∨H e=some (.own x))(k:∀b u,b≠e->s.heap.get? b=some u->h'.get? b=some u)(Ph:∃u,h'.get? e=some u)
  (new:bR X.prog X.w (upd H x o) h' x o):Inv X ae σ (upd H x o) { s with heap:=h',toks:=t' }:=I.un (Un.write mu he k Ph) (I.hok.write mu he k Ph new)
theorem Inv.pins_of (I:Inv X ae σ H s)(h:∀p∈HK,s.heap.get? p.1=some p.2/\H p.1=none/\p.1≠X.env.locals/\p.1∉X.fs/\∀v,p.2.data≠.cell v):Inv X HK σ H s :=
 ⟨I.ok,I.os,I.bare,I.base,I.loc,I.cell,I.free,I.freeC,λp hp=>(List.mem_append.mp hp).elim (λz=>I.pin p (List.mem_append_left _ z)) (h p),I.hok,I.len⟩
theorem xN {N:List Str}(hN:N.Nodup){i j:Nat}{x:Str}(a:N[i]? = some x)(b:N[j]? = some x):i=j:=by
 obtain⟨h1,e1⟩:=vV a;obtain⟨h2,e2⟩:=vV b;exact(List.getElem_inj hN).mp (e1.trans e2.symm)
theorem tK {M:Model}{A:Around}{E:Value->Shared->Prop}{i:Nat}{x:Str}{v:V}{u:Value}{Q:Unit->Shared->Prop}(I:Inv X ae σ H s)(hN:X.N.Nodup)(hi:X.N[i]? = some x)(hx:Ik X.env.scope x)(r:ba v u)
  (h:∀s',Inv X ae (σ.set i (some v)) H s'->(∃a,Heap.SameBut a s.heap s'.heap/\(a=X.env.locals∨X.env.cells.lookup x=some a))->Q () s') (hf:X.fn x=true∨X.env.scope.names.lookup x=some .local:=by first|exact .inl rfl|exact .inr rfl|assumption):wpAny M A (storeName X.env x u) Q E s:=by
 obtain⟨m,hn,hl⟩:=id I.loc;have Uk:(X.env.scope.kind == .class || (X.env.scope.kind == .module && X.env.locals != X.env.globals))=false:=by rw[I.ok.kind];rfl
 have E8:i<σ.length:=by rw[I.len];exact(vV hi).1
 have cne:=I.cne;have Df:∀ {a:Addr}{h':Heap},(∃o,s.heap.get? a=some o/\H a=none)->Heap.SameBut a s.heap h'->lz X.prog X.w H h':=λ{a h'} ha hs b ob e=>by
  obtain⟨_,_,Md⟩:=ha;refine(I.hok b ob e).stay (λc w' hc q=>(hs.2 c ?_).trans q) (λ_ q=>q) (λ_ _ q=>q) λ_ _ _ q=>q;rintro rfl;rcases hc with rfl|hc
  ·rw[Md]at e;cases e
  ·rw[Md]at hc;cases hc
 rcases hx with hk|hk
 ·refine wpAny_storeName_local hk hn (λh' Ul hs=>?_) Uk;obtain⟨oL,_,_,EQ,_⟩:=id hn;refine h _ ⟨I.ok,I.os,I.bare,⟨λb o e n hb hx=>?_,λb o e n hb hx=>?_,I.base.free,λb o e hx=>?_,I.base.tups,I.base.frzs,I.base.tbls⟩,⟨_,Ul,λj y v' e1 e2 e3=>?_⟩,λy c e=>?_,I.free,I.freeC,λp hp=>?_,Df ⟨oL,EQ,I.free⟩ hs,by simpa using I.len⟩ ⟨_,hs,.inl rfl⟩
  ·exact(hs.2 b (vS (vQ (vX e) I.ok.above))).trans (I.base.keep b o e n hb hx)
  ·obtain⟨sl,e1⟩:=I.base.slot b o e n hb hx;exact⟨sl,(hs.2 b (vS (vQ (vX e) I.ok.above))).trans e1⟩
  ·obtain⟨o',e1⟩:=I.base.there b o e hx;exact⟨o',(hs.2 b (vS (vQ (vX e) I.ok.above))).trans e1⟩
  ·by_cases hj:j=i
   ·subst hj;rw[hi]at e1;cases e1;rw[List.getElem?_set_self E8]at e2;cases e2
    exact⟨u,r,.inl ⟨hk,by simp⟩⟩
   ·rw[vB (Ne.symm hj)]at e2;obtain⟨u',r',q⟩:=hl j y v' e1 e2 e3;refine⟨u',r',?_⟩;rcases q with⟨k,e⟩|⟨k,c,e,z⟩
    ·refine .inl ⟨k,?_⟩;have:y≠x:=λe=>hj (xN hN e1 (e ▸ hi));simp[this,e]
    ·exact .inr ⟨k,c,e,z.sameBut hs (cne y c e)⟩
  ·obtain⟨w',z⟩:=I.cell y c e;exact⟨w',z.sameBut hs (cne y c e)⟩
  ·obtain⟨e,n,ne,nf,d⟩:=I.pin p hp;exact⟨(hs.2 p.1 ne).trans e,n,ne,nf,d⟩
 ·have Pl:X.fn x=true:=by
   rcases hf with z|z
   ·exact z
   ·rw[z]at hk;cases hk
  obtain⟨c,hc⟩:=I.ok.has x (.inl hk);obtain⟨w',z⟩:=I.cell x c hc;refine wpAny_storeName_cell I.ok.kind hk hc z (λh' KE hs=>?_);obtain⟨oc,ER,Um⟩:=id z;refine h { s with heap:=h' } ⟨I.ok,I.os,I.bare,⟨λb o e n hb hx=>?_,λb o e n hb hx=>?_,I.base.free,λb o e hx=>?_,I.base.tups,I.base.frzs,I.base.tbls⟩,⟨m,hn.sameBut hs (Ne.symm (cne x c hc)),λj y v' e1 e2 e3=>?_⟩,λy c' e=>?_,I.free,I.freeC,λp hp=>?_,Df ⟨oc,ER,I.freeC x c hc⟩ hs,by simpa using I.len⟩ ⟨c,hs,.inr hc⟩
  ·exact(hs.2 b (vS (vQ (vX e) (I.ok.cab x c Pl hc)))).trans (I.base.keep b o e n hb hx)
  ·obtain⟨sl,e1⟩:=I.base.slot b o e n hb hx;exact⟨sl,(hs.2 b (vS (vQ (vX e) (I.ok.cab x c Pl hc)))).trans e1⟩
  ·obtain⟨o',e1⟩:=I.base.there b o e hx;exact⟨o',(hs.2 b (vS (vQ (vX e) (I.ok.cab x c Pl hc)))).trans e1⟩
  ·by_cases hj:j=i
   ·subst hj;rw[hi]at e1;cases e1;rw[List.getElem?_set_self E8]at e2;cases e2
    exact⟨u,r,.inr ⟨.inl hk,c,hc,KE⟩⟩
   ·rw[vB (Ne.symm hj)]at e2;obtain⟨u',r',q⟩:=hl j y v' e1 e2 e3;refine⟨u',r',?_⟩;rcases q with q|⟨k,c',e,z'⟩
    ·exact .inl q
    ·refine .inr ⟨k,c',e,z'.sameBut hs ?_⟩;rintro rfl;exact hj (xN hN e1 (I.ok.inj _ _ _ e hc ▸ hi))
  ·by_cases hcc:c'=c
   ·subst hcc;exact⟨_,KE⟩
   ·obtain⟨w2,z2⟩:=I.cell y c' e;exact⟨w2,z2.sameBut hs hcc⟩
  ·obtain⟨e,n,ne,nf,d⟩:=I.pin p hp;refine⟨(hs.2 p.1 ?_).trans e,n,ne,nf,d⟩;intro q;rw[q,ER]at e;have q':oc=p.2:=vK e;exact d w' (by rw[←q'];exact Um)
theorem xO {M:Model}{A:Around}{E:Value->Shared->Prop}{i:Nat}{x:Str}{v:V}{u:Value}{Q:Unit->Shared->Prop}(I:Inv X ae σ H s)(hN:X.N.Nodup)(hi:X.N[i]? = some x)(hx:Ik X.env.scope x)(r:ba v u)
  (h:∀s',Inv X ae (σ.set i (some v)) H s'->Q () s') (hf:X.fn x=true∨X.env.scope.names.lookup x=some .local:=by first|exact .inl rfl|exact .inr rfl|assumption):wpAny M A (storeName X.env x u) Q E s :=
 tK I hN hi hx r (λs' I' _=>h s' I') hf
theorem Inv.call' (I:Inv X ae σ H s)(ho:s'.os=s.os)(u:Un (Ds X.stack) ch H H' s.heap s'.heap)(hok:lz X.prog X.w H' s'.heap)(hg:AllBare s'.gens)
  (pF:∀b∈ch,(b∈X.ex∨X.s₀.heap.objs.size<=b)/\b≠X.env.locals/\(∀x c,X.env.cells.lookup x=some c->c≠b)/\∀p∈X.pn++ae,p.1≠b):Inv X ae σ H' s':=by
 obtain⟨h',g',d',t',o'⟩:=s';have e:o'=s.os:=ho;subst e;exact I.call (g':=g') (t':=t') (d':=d') u hok hg pF
end
abbrev XK:=Value->Option Addr->Hp->Prop
abbrev St:=List (Option V)
abbrev VK:=V->Hp->Prop
abbrev TE:=St->Hp->VK->Prop
abbrev TT:=St->Hp->(Bool->Hp->Prop)->Prop
abbrev TA:=St->Hp->(List V->Hp->Prop)->Prop
structure Ends where
 nx:St->Hp->Prop
 rt:VK
 bk:St->Hp->Prop:=λ_ _=>False
 ct:St->Hp->Prop:=λ_ _=>False
abbrev TS:=Ends->St->Hp->Prop
def EP (X:Cx)(ae:List (Addr×Obj))(σ:St)(Q:VK)(u:Value)(s':Shared):Prop:=∃v H',Inv X ae σ H' s'/\ba v u/\Q v H'
def TP (X:Cx)(ae:List (Addr×Obj))(σ:St)(Q:Bool->Hp->Prop)(b:Bool)(s':Shared):Prop:=∃H',Inv X ae σ H' s'/\Q b H'
def AP (X:Cx)(ae:List (Addr×Obj))(σ:St)(Q:List V->Hp->Prop)(us:List Value)(s':Shared):Prop:=∃vs H',Inv X ae σ H' s'/\aX vs us/\Q vs H'
def SP (X:Cx)(ae:List (Addr×Obj))(D:Ends)(f:Flow)(s':Shared):Prop :=
 match f with
 |.next=>∃σ' H',Inv X ae σ' H' s'/\D.nx σ' H'
 |.brk=>∃σ' H',Inv X ae σ' H' s'/\D.bk σ' H'
 |.cont=>∃σ' H',Inv X ae σ' H' s'/\D.ct σ' H'
 |.ret u=>∃v σ' H',Inv X ae σ' H' s'/\ba v u/\D.rt v H'
def PE (X:Cx)(e:Expr)(t:TE):Prop :=
 ∀(ae:List (Addr×Obj))(s:Shared)(σ:St)(H:Hp)(Q:VK),Inv X ae σ H s->t σ H Q->wpAny (model X.prog X.w) X.A (eval e X.env) (EP X ae σ Q) X.xe s
def PT (X:Cx)(e:Expr)(t:TT):Prop :=
 ∀(ae:List (Addr×Obj))(s:Shared)(σ:St)(H:Hp)(Q:Bool->Hp->Prop),Inv X ae σ H s->t σ H Q->wpAny (model X.prog X.w) X.A (isTrue e X.env (eval e X.env)) (TP X ae σ Q) X.xe s
def PW (X:Cx)(e:Expr)(t:TT):Prop :=
 ∀(sJ:Sem Value)(ae:List (Addr×Obj))(s:Shared)(σ:St)(H:Hp)(Q:Bool->Hp->Prop),Inv X ae σ H s->t σ H Q->wpAny (model X.prog X.w) X.A (isTrue e X.env sJ) (TP X ae σ Q) X.xe s
theorem PW.pt (h:PW X e t):PT X e t:=h _
def PA (X:Cx)(es:List Expr)(t:TA):Prop :=
 ∀(pos:Pos)(ae:List (Addr×Obj))(s:Shared)(σ:St)(H:Hp)(Q:List V->Hp->Prop),Inv X ae σ H s->t σ H Q->wpAny (model X.prog X.w) X.A (spliced (backTo pos (starEach es X.env))) (AP X ae σ Q) X.xe s
def PS (X:Cx)(st:Stmt)(t:TS):Prop :=
 ∀(ae:List (Addr×Obj))(s:Shared)(σ:St)(H:Hp)(D:Ends),Inv X ae σ H s->t D σ H->wpAny (model X.prog X.w) X.A (exec st X.env) (SP X ae D) X.xe s
def wa (X:Cx)(st:List Stmt)(t:TS):Prop :=
 ∀(ae:List (Addr×Obj))(s:Shared)(σ:St)(H:Hp)(D:Ends),Inv X ae σ H s->t D σ H->wpAny (model X.prog X.w) X.A (execs st X.env) (SP X ae D) X.xe s
theorem cY {α:Type}{t:Sem α}{Q Q':α->Shared->Prop}{M:Model}{A:Around}{E:Value->Shared->Prop}{s:Shared}(h:wpAny M A t Q E s)(hQ:∀a s,Q a s->Q' a s):wpAny M A t Q' E s:=wpAny_mono h hQ λ_ _ x=>x
section
variable {X:Cx}
theorem ZX {a b:Expr}{ta tb:TE}(ha:PE X a ta)(hb:PE X b tb){ae:List (Addr×Obj)}{s:Shared}{σ:St}{H:Hp}{R:V->V->Hp->Prop}(I:Inv X ae σ H s)(h:ta σ H λx H1=>tb σ H1 λy H2=>R x y H2)
  {α:Type}{Q:α->Shared->Prop}{f:Value->Value->Sem α}
  (hf:∀v u s2 x y H2,Inv X ae σ H2 s2->ba x v->ba y u->R x y H2->wpAny (model X.prog X.w) X.A (f v u) Q X.xe s2):
  wpAny (model X.prog X.w) X.A (eval a X.env) (λv s₁=>wpAny (model X.prog X.w) X.A (eval b X.env) (λu s₂=>wpAny (model X.prog X.w) X.A (f v u) Q X.xe s₂) X.xe s₁) X.xe s:=by
 refine cY (ha ae s σ H _ I h) λv s1 ⟨x,H1,I1,r1,q1⟩=>?_;refine cY (hb ae s1 σ H1 _ I1 q1) λu s2 ⟨y,H2,I2,r2,q2⟩=>?_;exact hf v u s2 x y H2 I2 r1 r2 q2
def EY (i:Nat):TE:=λσ H Q=>∃v,σ[i]? = some (some v)/\Q v H
def tC (v:V):TE:=λ_ H Q=>Q v H
theorem lO (hN:X.N[i]? = some x)(hv:EX X.env.scope x)(hd:(x == ("__debug__" : Str))=false:=by decide)(jG:(x == ("__classdict__" : Str))=false:=by decide):PE X (.Name x pos) (EY i):=by
 intro ae s σ H Q I h;obtain⟨v,e,h⟩:=h;obtain⟨m,hn,hl⟩:=I.loc;obtain⟨u,r,l⟩:=hl i x v hN e hv;have mo:EP X ae σ Q u s:=⟨v,H,I,r,h⟩;rcases l with⟨hk,hm⟩|⟨hk,c,hc,Me⟩
 ·exact wpAny_Name (wpAny_loadName_local I.ok.kind hk hn hm mo) hd
 ·rcases hk with hk|hk
  ·exact wpAny_Name (wpAny_loadName_cell I.ok.kind hk hc Me mo) hd
  ·exact wpAny_Name (wpAny_loadName_free I.ok.kind hk hc Me mo jG) hd
theorem Mz {i j pos}:PE X (.Constant (.int i) j pos) (tC (.int i)):=λ_ _ _ H _ I h=>wpAny_Constant_int ⟨.int i,H,I.tok _,⟨_,rfl⟩,h⟩
theorem PF {b j pos}:PE X (.Constant (.bool b) j pos) (tC (.bl b)):=λ_ _ _ H _ I h=>Constant_bool ⟨.bl b,H,I,rfl,h⟩
theorem M0 {j pos}:PE X (.Constant .none j pos) (tC .non):=λ_ _ _ H _ I h=>Constant_none ⟨.non,H,I,rfl,h⟩
theorem M2 {x j pos}:PE X (.Constant (.str x) j pos) (tC (.str x)):=λ_ _ _ H _ I h=>Calls.Constant_str ⟨.str x,H,I.tok _,⟨_,rfl⟩,h⟩
def Gl (X:Cx)(x:Str):Prop:=X.env.kindOf x=some .globalImplicit
theorem wb {E:Value->Shared->Prop}{ae:List (Addr×Obj)}{s:Shared}{σ:St}{H:Hp}{x:Str}{u:Value}{pos:Pos}{Q:Value->Shared->Prop}(I:Inv X ae σ H s)(hg:Gl X x)(hm:X.mg x=some u)(h:Q u s)
  (hd:(x == ("__debug__" : Str))=false:=by decide):wpAny (model X.prog X.w) X.A (eval (.Name x pos) X.env) Q E s :=
 Calls.Name_function_global I.ok.kind hg (Calls.loadGlobal_global (by rw[I.ok.glob];exact I.mod.glob.keeps I.bk) hm h) hd
theorem lP {E:Value->Shared->Prop}{ae:List (Addr×Obj)}{s:Shared}{σ:St}{H:Hp}{x:Str}{u:Value}{pos:Pos}{Q:Value->Shared->Prop}(I:Inv X ae σ H s)(hg:Gl X x)(hm:X.mg x=none)(hv:bootBuiltins x=some u)(h:Q u s)
  (hn:x ≠ "__name__":=by decide) (hd:(x == ("__debug__" : Str))=false:=by decide):wpAny (model X.prog X.w) X.A (eval (.Name x pos) X.env) Q E s:=by
 obtain⟨mb,h1,h2⟩:=I.mod.blt;exact Calls.Name_function_global I.ok.kind hg (Calls.loadGlobal_builtin (by rw[I.ok.glob];exact I.mod.glob.keeps I.bk) hm (by rw[I.ok.blt];exact h1.keeps I.bk) ((h2 x hn).trans hv) h) hd
theorem BC (hg:Gl X x)(hm:X.mg x=some u)(r:ba v u)(hd:(x == ("__debug__" : Str))=false:=by decide):PE X (.Name x pos) (tC v) :=
 λ_ _ _ H _ I h=>wb I hg hm ⟨v,H,I,r,h⟩ hd
theorem IE (hg:Gl X x)(hm:X.mg x=none)(hv:bootBuiltins x=some u)(r:ba v u)(hn:x ≠ "__name__":=by decide)(hd:(x == ("__debug__" : Str))=false:=by decide):PE X (.Name x pos) (tC v) :=
 λ_ _ _ H _ I h=>lP I hg hm hv ⟨v,H,I,r,h⟩ hn hd
def Xq (ta tb:TE)(k:Int->Int->Hp->Prop):St->Hp->Prop:=λσ H=>ta σ H λx H1=>tb σ H1 λy H2=>∃i j,x=.int i/\y=.int j/\k i j H2
variable {a b:Expr}{ta tb:TE}{pos:Pos}
def PC (X:Cx)(op:CmpOp)(a b:Expr)(t:TE):Prop :=
 ∀(ae:List (Addr×Obj))(s:Shared)(σ:St)(H:Hp)(Q:VK),Inv X ae σ H s->t σ H Q ->
  wpAny (model X.prog X.w) X.A (eval a X.env) (λv s₁=>wpAny (model X.prog X.w) X.A (eval b X.env) (λu s₂=>wpAny (model X.prog X.w) X.A (compareOp op v u) (EP X ae σ Q) X.xe s₂) X.xe s₁) X.xe s
theorem jn (b:Expr){op:CmpOp}(h:op≠.In)(h2:op≠.NotIn):behindInMarks op b=false:=by
 have e1:(op == CmpOp.In)=false:=by cases op<;>first|rfl|exact absurd rfl h
 have e2:(op == CmpOp.NotIn)=false:=by cases op<;>first|rfl|exact absurd rfl h2
 cases b<;>simp[behindInMarks,e1,e2]
def PH (p:Int->Int->Bool)(ta tb:TE):TE:=λσ H Q=>Xq ta tb (λi j H2=>Q (.bl (p i j)) H2) σ H
abbrev M3:TE->TE->TE:=PH λi j=>decide (i<j)
abbrev Xr:TE->TE->TE:=PH λi j=>decide (j<i)
def tB (t:TE):TT:=λσ H Q=>t σ H λx H1=>∃c,x=.bl c/\Q c H1
theorem M4 (h:PC X op a b t)(h1:behindInMarks op b=false:=by first|exact jn _ (by decide) (by decide)|rfl):PE X (.Compare a [op] [b] pos) t:=λae s σ H Q I hw=>wpAny_Compare1 (h ae s σ H Q I hw) h1
theorem M5 {op:CmpOp}{t:TE}(h:PC X op a b t)(h1:behindInMarks op b=false:=by first|exact jn _ (by decide) (by decide)|rfl):PT X (.Compare a [op] [b] pos) (tB t):=by
 intro ae s σ H Q I hw;refine wpAny_isTrue_Compare1 (cY (h ae s σ H _ I hw) λv s1 h1=>cY h1 λu s2 h2=>cY h2 λc s3 ⟨x,H1,I1,r1,q1⟩=>?_) h1;obtain⟨d,rfl,q⟩:=q1;cases r1
 exact wpAny_truthy_bool ⟨H1,I1,q⟩
theorem M6 {e:Expr}{t:TE}(h:PE X e t)(he:∀sJ,isTrue e X.env sJ=(do let v ←sJ;standAt e.pos;holding [v] (truthy v)):=by intro _;rfl):PT X e (tB t):=by
 intro ae s σ H Q I hw;refine isTrue_plain (cY (h ae s σ H _ I hw) λv s1 ⟨x,H1,I1,r1,q1⟩=>?_) (he _);obtain⟨d,rfl,q⟩:=q1;cases r1
 exact wpAny_truthy_bool ⟨H1,I1,q⟩
variable {tA SA:TT}{aF:List Expr}
def PJ (t u:TT):TT:=λσ H Q=>t σ H λc H1=>if c=true then u σ H1 Q else Q false H1
def V0 (t u:TT):TT:=λσ H Q=>t σ H λc H1=>if c=true then Q true H1 else u σ H1 Q
def PK (t:TT):TT:=λσ H Q=>t σ H λc H1=>Q (!c) H1
theorem IF (ha:PT X a tA):PW X (.BoolOp .And [a] pos) tA:=by
 intro wh ae s σ H Q I h;refine isTrue_and (cY (ha ae s σ H Q I h) λc s1 e=>?_);cases c with
 |true=>exact isTrue_and_nil e
 |false=>exact e
theorem M7 (ha:PT X a tA):PW X (.BoolOp .Or [a] pos) tA:=by
 intro wh ae s σ H Q I h;refine isTrue_or (cY (ha ae s σ H Q I h) λc s1 e=>?_);cases c with
 |false=>exact isTrue_or_nil e
 |true=>exact e
theorem M8 (ha:PT X a tA)(hb:PW X (.BoolOp .And (b::aF) pos) SA):PW X (.BoolOp .And (a::b::aF) pos) (PJ tA SA):=by
 intro wh ae s σ H Q I h;refine isTrue_and (cY (ha ae s σ H _ I h) λc s1 ⟨H1,I1,q1⟩=>?_);cases c with
 |true=>exact hb wh ae s1 σ H1 Q I1 q1
 |false=>exact⟨H1,I1,q1⟩
theorem PL (ha:PT X a tA)(hb:PW X (.BoolOp .Or (b::aF) pos) SA):PW X (.BoolOp .Or (a::b::aF) pos) (V0 tA SA):=by
 intro wh ae s σ H Q I h;refine isTrue_or (cY (ha ae s σ H _ I h) λc s1 ⟨H1,I1,q1⟩=>?_);cases c with
 |true=>exact⟨H1,I1,q1⟩
 |false=>exact hb wh ae s1 σ H1 Q I1 q1
theorem M9 (ha:PT X a tA):PT X (.UnaryOp .Not a pos) (PK tA):=by
 intro ae s σ H Q I h;exact isTrue_not (ha ae s σ H (λc H1=>Q (!c) H1) I h)
def PM (ta tb:TE):TE:=λσ H Q=>ta σ H λx H1=>∃c,x=.bl c/\if c=true then tb σ H1 Q else Q (.bl false) H1
def Tj (ta tb:TE):TE:=λσ H Q=>ta σ H λx H1=>∃c,x=.bl c/\if c=true then Q (.bl true) H1 else tb σ H1 Q
def PN (ta:TE):TE:=λσ H Q=>ta σ H λx H1=>∃c,x=.bl c/\Q (.bl (!c)) H1
theorem MA {op}(h:PE X a t):PE X (.BoolOp op [a] pos) t:=λae s σ H Q I hw=>BoolOp_one (h ae s σ H Q I hw)
theorem MB (ha:PE X a ta)(hb:PE X (.BoolOp .And (b::aF) pos) tb):PE X (.BoolOp .And (a::b::aF) pos) (PM ta tb):=by
 intro ae s σ H Q I h;refine BoolOp_and (cY (ha ae s σ H _ I h) λv s1 ⟨x,H1,I1,r1,q1⟩=>?_);obtain⟨c,rfl,q1⟩:=q1;cases r1
 refine wpAny_truthy_bool ?_;cases c with
 |true=>exact hb ae s1 σ H1 Q I1 q1
 |false=>exact⟨.bl false,H1,I1,rfl,q1⟩
theorem PP (ha:PE X a ta)(hb:PE X (.BoolOp .Or (b::aF) pos) tb):PE X (.BoolOp .Or (a::b::aF) pos) (Tj ta tb):=by
 intro ae s σ H Q I h;refine BoolOp_or (cY (ha ae s σ H _ I h) λv s1 ⟨x,H1,I1,r1,q1⟩=>?_);obtain⟨c,rfl,q1⟩:=q1;cases r1
 refine wpAny_truthy_bool ?_;cases c with
 |false=>exact hb ae s1 σ H1 Q I1 q1
 |true=>exact⟨.bl true,H1,I1,rfl,q1⟩
theorem MC (ha:PE X a ta):PE X (.UnaryOp .Not a pos) (PN ta):=by
 intro ae s σ H Q I h;refine UnaryOp_ (cY (ha ae s σ H _ I h) λv s1 ⟨x,H1,I1,r1,q1⟩=>?_);obtain⟨c,rfl,q1⟩:=q1;cases r1
 exact not_of (wpAny_truthy_bool ⟨.bl (!c),H1,I1,rfl,q1⟩)
end
def iP (K:PySem.W.Frag)(H:Hp)(a:Addr)(xs:List V):Prop :=
 Rd H a (.lst xs) ∨
  ∃(o:Obj)(its:Array Value)(n:Nat),K.lookup a=some o/\o.cls=.type "list"/\o.dict=none/\o.data=.seq its n/\its.size<=sizeLine/\aX xs its.toList
def jo (K:PySem.W.Frag)(H:Hp)(a:Addr)(xs:List V):Prop :=
 Rd H a (.tup xs) ∨
  ∃(o:Obj)(its:Array Value)(n:Nat),K.lookup a=some o/\o.cls=.type "tuple"/\o.data=.seq its n/\its.size<=sizeLine/\aX xs its.toList
noncomputable def Tk:Value->Option V
 |.none=>some .non
 |.bool b=>some (.bl b)
 |.int i _=>some (.int i)
 |.str x _=>some (.str x)
 |.bytes b _=>some (.byt b)
 |.float b _=>some (.flt b)
 |.ref a=>some (.ref a)
 |.type n=>some (.ty n)
 |_=>none
theorem ba.abs (r:ba x u):Tk u=some x:=by
 cases x with
 |non=>cases r;rfl
 |bl _=>cases r;rfl
 |int _=>obtain⟨t,rfl⟩:=r;rfl
 |str _=>obtain⟨t,rfl⟩:=r;rfl
 |byt _=>obtain⟨t,rfl⟩:=r;rfl
 |flt _=>obtain⟨t,rfl⟩:=r;rfl
 |ref _=>cases r;rfl
 |ty _=>cases r;rfl
theorem ba.inj (r:ba x u)(q:ba y u):x=y:=vK (r.abs.symm.trans q.abs)
theorem aX.inj:∀ {xs ys:List V}{us:List Value},aX xs us->aX ys us->xs=ys
 |_,_,_,.nil,.nil=>rfl
 |_,_,_,.cons r t,.cons r' t'=>by rw[r.inj r',aX.inj t t']
section
variable {X:Cx}{ae:List (Addr×Obj)}{σ:St}{H:Hp}{s:Shared}{a:Addr}{xs ys:List V}
theorem iP.of {K:PySem.W.Frag}(h:H a=some (.lst xs)):iP K H a xs:=.inl (.inl h)
theorem jo.of {K:PySem.W.Frag}(h:H a=some (.tup xs)):jo K H a xs:=.inl (.inl h)
theorem Inv.list (I:Inv X ae σ H s)(h:iP X.K H a xs):∃its:List Value,aX xs its/\PlainL s.heap a its.toArray/\xs.length<=sizeLine:=by
 rcases h with h|⟨o,its,n,hk,hc,hd,hs,hz,r⟩
 ·obtain⟨z,its,n,r,e⟩:=h.ok I.hok;exact⟨its,r,⟨_,n,e,rfl,rfl,rfl⟩,z⟩
 ·refine⟨its.toList,r,⟨o,n,I.kIn a o hk,hc,hd,by simpa using hs⟩,?_⟩;have e:=r.length;simp only[vG]at e;omega
theorem Inv.tuple (I:Inv X ae σ H s)(h:jo X.K H a xs):∃its:List Value,aX xs its/\IsTup s.heap a its.toArray/\xs.length<=sizeLine:=by
 rcases h with h|⟨o,its,n,hk,hc,hs,hz,r⟩
 ·obtain⟨z,its,r,p⟩:=h.ok I.hok;exact⟨its,r,p,z⟩
 ·refine⟨its.toList,r,⟨o,I.kIn a o hk,hc,n,by simpa using hs⟩,?_⟩;have e:=r.length;simp only[vG]at e;omega
theorem Inv.list_inj (I:Inv X ae σ H s)(h:iP X.K H a xs)(h':iP X.K H a ys):xs=ys:=by
 obtain⟨its,r,⟨o,n,e,_,_,d⟩,_⟩:=I.list h;obtain⟨its',r',⟨o',n',e',_,_,d'⟩,_⟩:=I.list h';rw[e]at e';cases e';rw[d]at d';injection d' with d1 _;have:its=its':=by simpa using congrArg Array.toList d1
 subst this;exact r.inj r'
theorem Inv.tuple_inj (I:Inv X ae σ H s)(h:jo X.K H a xs)(h':jo X.K H a ys):xs=ys:=by
 obtain⟨its,r,⟨o,e,_,n,d⟩,_⟩:=I.tuple h;obtain⟨its',r',⟨o',e',_,n',d'⟩,_⟩:=I.tuple h';rw[e]at e';cases e';rw[d]at d';injection d' with d1 _;have:its=its':=by simpa using congrArg Array.toList d1
 subst this;exact r.inj r'
end
noncomputable abbrev Cx.wish (X:Cx)(E:Value->Shared->Prop):Cx:={ X with xe:=E }
noncomputable abbrev Cx.nox (X:Cx):Cx:=X.wish λ_ _=>False
theorem Cx.Ok.wish {X:Cx}(ok:X.Ok)(E:Value->Shared->Prop):(X.wish E).Ok :=
 ⟨ok.mod,ok.kind,ok.glob,ok.blt,ok.above,ok.inj,ok.has,ok.cab,ok.hd,ok.frames,ok.stk,ok.exf,ok.bs,ok.bsz,ok.noex,ok.exfs,ok.funs,ok.frf⟩
theorem Cx.Ok.unwish {X:Cx}{E:Value->Shared->Prop}(ok:(X.wish E).Ok):X.Ok :=
 ⟨ok.mod,ok.kind,ok.glob,ok.blt,ok.above,ok.inj,ok.has,ok.cab,ok.hd,ok.frames,ok.stk,ok.exf,ok.bs,ok.bsz,ok.noex,ok.exfs,ok.funs,ok.frf⟩
section
variable {X:Cx}{ae:List (Addr×Obj)}{σ:St}{H:Hp}{s:Shared}{E:Value->Shared->Prop}
theorem Inv.wish (I:Inv X ae σ H s)(E:Value->Shared->Prop):Inv (X.wish E) ae σ H s:=⟨I.ok.wish E,I.os,I.bare,I.base,I.loc,I.cell,I.free,I.freeC,I.pin,I.hok,I.len⟩
theorem Inv.unwish (I:Inv (X.wish E) ae σ H s):Inv X ae σ H s:=⟨I.ok.unwish,I.os,I.bare,I.base,I.loc,I.cell,I.free,I.freeC,I.pin,I.hok,I.len⟩
theorem SP.unwish (h:SP (X.wish E) ae D f s'):SP X ae D f s':=by
 cases f with
 |next=>obtain⟨σ',H',I,q⟩:=h;exact⟨σ',H',I.unwish,q⟩
 |brk=>obtain⟨σ',H',I,q⟩:=h;exact⟨σ',H',I.unwish,q⟩
 |cont=>obtain⟨σ',H',I,q⟩:=h;exact⟨σ',H',I.unwish,q⟩
 |ret u=>obtain⟨v,σ',H',I,r,q⟩:=h;exact⟨v,σ',H',I.unwish,r,q⟩
theorem PE.nox (h:PE X.nox e t):PE X e t:=λae s σ H Q I hw=>
 wpAny_mono (h ae s σ H Q (I.wish _) hw) (λ_ _ ⟨v,H',I',r,q⟩=>⟨v,H',I'.unwish,r,q⟩) λ_ _ z=>False.elim z
theorem PT.nox (h:PT X.nox e t):PT X e t:=λae s σ H Q I hw=>
 wpAny_mono (h ae s σ H Q (I.wish _) hw) (λ_ _ ⟨H',I',q⟩=>⟨H',I'.unwish,q⟩) λ_ _ z=>False.elim z
theorem wa.nox {st:List Stmt}{t:TS}(h:wa X.nox st t):wa X st t:=λae s σ H D I hw=>
 wpAny_mono (h ae s σ H D (I.wish _) hw) (λ_ _ q=>q.unwish) λ_ _ z=>False.elim z
end
section
variable {X:Cx}{st:Stmt}{aF:List Stmt}{t u:TS}{e:Expr}{te:TE}{pos:Pos}
def Le:TS:=λD σ H=>D.nx σ H
def PQ (t u:TS):TS:=λD σ H=>t { D with nx:=u D } σ H
theorem IG:wa X [] Le:=λ_ _ σ H _ I h=>wpAny_execs_nil ⟨σ,H,I,h⟩
theorem EZ (h1:PS X st t)(h2:wa X aF u):wa X (st::aF) (PQ t u):=by
 intro ae s σ H D I h;refine wpAny_execs_cons (cY (h1 ae s σ H { D with nx:=u D } I h) λf s1 q=>?_);cases f with
 |next=>
  obtain⟨σ',H',I',q⟩:=q;exact h2 ae s1 σ' H' D I' q
 |ret v=>exact q
 |brk=>exact q
 |cont=>exact q
theorem IH (h1:PS X st t):wa X [st] t:=by
 intro ae s σ H D I h;refine wpAny_execs_cons (cY (h1 ae s σ H D I h) λf s1 q=>?_);cases f with
 |next=>exact wpAny_execs_nil q
 |ret v=>exact q
 |brk=>exact q
 |cont=>exact q
def PR:TS:=λD σ H=>D.ct σ H
theorem xP:PS X (.Continue pos) PR:=λ_ _ σ H _ I h=>wpAny_Continue ⟨σ,H,I,h⟩
theorem Inv.quiet (I:Inv X ae σ H s):interactive X.env=false:=by simp[interactive,I.ok.kind]
def PU (te:TE):TS:=λD σ H=>te σ H λ_ H1=>D.nx σ H1
theorem II (he:PE X e te)(hs:swapsWith e none pos.line X.env=pure false:=by rfl):PS X (.Expr e pos) (PU te):=by
 intro ae s σ H D I h;exact wpAny_Expr_any (cY (he ae s σ H _ I h) λv s1 ⟨x,H1,I1,r1,q1⟩=>⟨σ,H1,I1,q1⟩) I.quiet hs
def MD (te:TE):TS:=λD σ H=>te σ H D.rt
theorem Fa (he:PE X e te):PS X (.Return (some e) pos) (MD te):=by
 intro ae s σ H D I h;exact wpAny_Return_some (cY (he ae s σ H _ I h) λv s1 ⟨x,H1,I1,r1,q1⟩=>⟨x,σ,H1,I1,r1,q1⟩)
def PV (c:TT)(t u:TS):TS:=λD σ H=>c σ H λb H1=>if b=true then t D σ H1 else u D σ H1
theorem PX {c:Expr}{a b:List Stmt}{tc:TT}(hc:PT X c tc)(ha:wa X a t)(hb:wa X b u):PS X (.If c a b pos) (PV tc t u):=by
 intro ae s σ H D I h;refine wpAny_If (cY (hc ae s σ H _ I h) λd s1 ⟨H1,I1,q1⟩=>?_);cases d with
 |true=>exact ha ae s1 σ H1 D I1 q1
 |false=>exact hb ae s1 σ H1 D I1 q1
end
abbrev TG:=V->St->Hp->(St->Hp->Prop)->Prop
abbrev Lg:=List V->St->Hp->(St->Hp->Prop)->Prop
def PG (X:Cx)(sL:Expr)(t:TG):Prop :=
 ∀(ae:List (Addr×Obj))(s:Shared)(σ:St)(H:Hp)(v:V)(u:Value)(Q:St->Hp->Prop),Inv X ae σ H s->ba v u->t v σ H Q ->
  wpAny (model X.prog X.w) X.A (assign sL X.env u) (λ_ s'=>∃σ' H',Inv X ae σ' H' s'/\Q σ' H') X.xe s
def PY (X:Cx)(ts:List Expr)(t:Lg):Prop :=
 ∀(ae:List (Addr×Obj))(s:Shared)(σ:St)(H:Hp)(vs:List V)(us:List Value)(Q:St->Hp->Prop),Inv X ae σ H s->aX vs us->t vs σ H Q ->
  wpAny (model X.prog X.w) X.A (assignInOrder ((assignEach ts X.env).map (·.2)) us) (λ_ s'=>∃σ' H',Inv X ae σ' H' s'/\Q σ' H') X.xe s
abbrev ME:=V->V->V->Hp->(Hp->Prop)->Prop
def PZ (X:Cx)(t:ME):Prop :=
 ∀(ae:List (Addr×Obj))(s:Shared)(σ:St)(H:Hp)(o i v:V)(ov iv u:Value)(Q:Hp->Prop),Inv X ae σ H s->ba o ov->ba i iv->ba v u->t o i v H Q ->
  wpAny (model X.prog X.w) X.A (setItem ov iv u) (λ_ s'=>∃H',Inv X ae σ H' s'/\Q H') X.xe s
section
variable {X:Cx}{pos:Pos}
def jX (i:Nat):TG:=λv σ H Q=>Q (σ.set i (some v)) H
theorem BD (hN:X.N.Nodup)(hi:X.N[i]? = some x)(hx:Ik X.env.scope x)(hf:X.fn x=true∨X.env.scope.names.lookup x=some .local:=by first|exact .inl rfl|exact .inr rfl|assumption):PG X (.Name x pos) (jX i):=by
 intro ae s σ H v u Q I r h;exact wpAny_assign_Name (xO I hN hi hx r (λs' I'=>⟨_,H,I',h⟩) hf)
def Qa:Lg:=λvs σ H Q=>vs=[]/\Q σ H
def Lh (t:TG)(u:Lg):Lg:=λvs σ H Q=>∃v r,vs=v::r/\t v σ H λσ' H'=>u r σ' H' Q
theorem mq:PY X [] Qa:=by
 intro ae s σ H vs us Q I r h;obtain⟨e,h⟩:=h;subst e;cases r
 exact assignInOrder_nil ⟨σ,H,I,h⟩
theorem eV {e:Expr}{es:List Expr}{t:TG}{u:Lg}(h1:PG X e t)(h2:PY X es u)
  (hs:(assignEach (e::es) X.env).map (·.2)=assign e X.env::(assignEach es X.env).map (·.2):=by rfl):PY X (e::es) (Lh t u):=by
 intro ae s σ H vs us Q I r h;obtain⟨v,vr,e1,h⟩:=h;subst e1;cases r with
 |cons r rr=>
  rw[hs];refine assignInOrder_cons (cY (h1 ae s σ H _ _ _ I r h) λ_ s1 ⟨σ1,H1,I1,q1⟩=>?_);exact h2 ae s1 σ1 H1 _ _ Q I1 rr q1
def MF (K:PySem.W.Frag)(n:Nat)(t:Lg):TG:=λv σ H Q=>∃a xs,v=.ref a/\jo K H a xs/\xs.length=n/\t xs σ H Q
theorem wc (hc:X.calm=true)(h:PY X es t)
  (hn:(assignEach es X.env).length=n:=by rfl) (jW:(assignEach es X.env).findIdx? (·.1)=none:=by rfl):PG X (.Tuple es k pos) (MF X.K n t):=by
 intro ae s σ H v u Q I r hw;obtain⟨a,xs,e1,hq,hl,hw⟩:=hw;subst e1;cases r
 obtain⟨its,rv,ht,hz⟩:=I.tuple hq;refine assign_Tuple_tuple (I.ok.hd hc) ht (by simp[hn,←hl,rv.length]) jW λh' hx=>?_;have I1:Inv X ae σ H { s with heap:=h' }:=I.kept (t':=s.toks) λb o e=>hx b o (vS (vX e)) e;exact h ae _ σ H xs _ Q I1 (by simpa using rv) hw
def Tl (to ti:TE)(t:ME):TG:=λv σ H Q=>to σ H λo H1=>ti σ H1 λi H2=>t o i v H2 λH3=>Q σ H3
theorem MG {o i:Expr}{to ti:TE}{t:ME}(ho:PE X o to)(hi:PE X i ti)(hs:PZ X t)
  (ha:∀v,assign (.Subscript o i pos) X.env v=(do
   let ov ←holding [v] (eval o X.env)
   let iv ←holding [v,ov] (eval i X.env)
   standAt pos
   holding [v,ov,iv] (setItem ov iv v)
   release [v,ov,iv] []):=by intro _;rfl):PG X (.Subscript o i pos) (Tl to ti t):=by
 intro ae s σ H v u Q I r h;rw[ha];refine wX (wpAny_holding (cY (ho ae s σ H _ I h) λov s1 ⟨x,H1,I1,r1,q1⟩=>?_));refine wX (wpAny_holding (cY (hi ae s1 σ H1 _ I1 q1) λiv s2 ⟨y,H2,I2,r2,q2⟩=>?_));refine wX (wpAny_standAt (wX (wpAny_holding (cY (hs ae s2 σ H2 x y v ov iv u _ I2 r1 r2 r q2) λ_ s3 ⟨H3,I3,q3⟩=>?_))));exact wpAny_release ⟨σ,H3,I3,q3⟩
def xQ (te:TE)(g:TG):TS:=λD σ H=>te σ H λx H1=>g x σ H1 D.nx
theorem Fb {tg e:Expr}{te:TE}{g:TG}(he:PE X e te)(hg:PG X tg g)(hs:swapsWithSole [tg] e pos.line X.env=pure false:=by rfl)(hw:swappedStores [tg] e X.env=pure none:=by rfl)
  (h1:(assignEach [tg] X.env).map (·.2)=[assign tg X.env]:=by rfl):PS X (.Assign [tg] e pos) (xQ te g):=by
 intro ae s σ H D I h;refine wpAny_Assign_stores (cY (he ae s σ H _ I h) λv s1 ⟨x,H1,I1,r1,q1⟩=>?_) hs hw;rw[h1];exact cY (hg ae s1 σ H1 x v _ I1 r1 q1) λ_ s2 q=>q
theorem we {i:Nat}{x:Str}{e:Expr}{te:TE}{zW:Pos}(hN:X.N.Nodup)(hi:X.N[i]? = some x)(hx:Ik X.env.scope x)(he:PE X e te)(hs:swapsWith e (some (.Name x zW)) pos.line X.env=pure false:=by rfl)(hf:X.fn x=true∨X.env.scope.names.lookup x=some .local:=by first|exact .inl rfl|exact .inr rfl|assumption):
  PS X (.Assign [.Name x zW] e pos) (xQ te (jX i)):=by
 intro ae s σ H D I h;refine wpAny_Assign_Name (cY (he ae s σ H _ I h) λv s1 ⟨y,H1,I1,r1,q1⟩=>?_) hs;exact xO I1 hN hi hx r1 (λs2 I2=>⟨_,H1,I2,q1⟩) hf
end
structure It where
 go:Nat->Hp->Prop
 yld:Nat->Hp->V->Hp->Prop
 stop:Nat->Hp->Prop
def nO (X:Cx)(ae:List (Addr×Obj))(H:Hp)(b:Addr):Prop :=
 H b=none/\b≠X.env.locals/\b∉X.fs/\(b∈X.ex∨X.s₀.heap.objs.size<=b)/\(∀x c,X.env.cells.lookup x=some c->c≠b)/\∀p∈X.pn++ae,p.1≠b
theorem Inv.fpOk (I:Inv X ae σ H s)(hb:s.heap.objs.size<=b)(hn:H' b=none):nO X ae H' b:=by
 refine⟨hn,Nat.ne_of_gt (vQ I.lt hb),I.nofs hb,.inr (vR I.sz hb),λx c e z=>?_,λp hp z=>?_⟩
 ·obtain⟨v,q⟩:=I.cell x c e;exact absurd (vQ q.lt (by rw[z];exact hb)) (Nat.lt_irrefl _)
 ·exact absurd (vQ (vX (I.pin p hp).1) (by rw[z];exact hb)) (Nat.lt_irrefl _)
structure Turn (P:Program)(w:World)(K:PySem.W.Frag)(tg:Expr)(J:It)(fp:List Addr)(it:Addr)(tn:Nat->Heap->Prop):Prop where
 mem:it∈fp
 obj:∀i h,tn i h->∀b∈fp,∃o,h.get? b=some o/\∀v,o.data≠.cell v
 keep:∀i h h',tn i h->(∀b∈fp,∀o,h.get? b=some o->h'.get? b=some o)->tn i h'
 item:∀(X:Cx),X.prog=P->X.w=w->X.K=K->X.calm=true->∀(i:Nat)(ae:List (Addr×Obj))(s:Shared)(σ:St)(H:Hp)(E:Value->Shared->Prop),Inv X ae σ H s->(∀b∈fp,nO X ae H b)->tn i s.heap->J.go i H ->
  wpAny (model P w) X.A (pyNext (.ref it)) (λr s1=>∃u,r=some u /\
   wpAny (model P w) X.A (letOwnedTupleGo tg (.ref it) u) (λ_ s2=>∃x H',Inv X ae σ H' s2/\ba x u/\J.yld i H x H'/\tn (i+1) s2.heap/\∀b∈fp,H' b=none) E s1) E s
 done:∀(X:Cx),X.prog=P->X.w=w->X.K=K->X.calm=true->∀(i:Nat)(ae:List (Addr×Obj))(s:Shared)(σ:St)(H:Hp)(E:Value->Shared->Prop),Inv X ae σ H s->(∀b∈fp,nO X ae H b)->tn i s.heap->J.stop i H ->
  wpAny (model P w) X.A (pyNext (.ref it)) (λr s1=>r=none/\Inv X ae σ H s1) E s
 self:∀(A:Around)(i:Nat)(s:Shared)(Q:Value->Shared->Prop)(E:Value->Shared->Prop),tn i s.heap->Q (.ref it) s->wpAny (model P w) A (pyIter (.ref it)) Q E s
abbrev TI:=St->Hp->(It->Hp->Prop)->Prop
def V1 (X:Cx)(ae:List (Addr×Obj))(σ:St)(tg:Expr)(R:It->Hp->Prop)(SD:Value)(s2:Shared):Prop :=
 ∃(it:Addr)(fp:List Addr)(tn:Nat->Heap->Prop)(J:It)(H':Hp),SD=.ref it/\Inv X ae σ H' s2/\Turn X.prog X.w X.K tg J fp it tn/\tn 0 s2.heap/\(∀b∈fp,nO X ae H' b)/\R J H'
def PI (X:Cx)(tg dr:Expr)(wi:TI):Prop :=
 ∀(ae:List (Addr×Obj))(s:Shared)(σ:St)(H:Hp)(R:It->Hp->Prop),Inv X ae σ H s->wi σ H R ->
  wpAny (model X.prog X.w) X.A (eval dr X.env) (λv s1=>wpAny (model X.prog X.w) X.A (pyIter v) (V1 X ae σ tg R) X.xe s1) X.xe s
theorem pY (ho:s.heap.get? it=some o)(hc:o.cls=.type n)(hd:o.data=.fields vs)
    (hn:["enumerate","zip","dict_itemiterator","dict_reverseitemiterator","odict_iterator","itertools.zip_longest","itertools.pairwise"].contains n=false) (hQ:Q () s):wpAny M A (letOwnedTupleGo tg (.ref it) u) Q E s:=by
  unfold letOwnedTupleGo;cases tg<;>first
    |exact wY hQ
    | (cases u<;>first
        |exact wY hQ
        | (refine wX (wpAny_load ho ?_)
           rw[hc,hd]
           show wpAny M A (if(["enumerate","zip","dict_itemiterator","dict_reverseitemiterator","odict_iterator","itertools.zip_longest","itertools.pairwise"].contains n && vs[0]? == some (rawInt _))=true then _ else _) Q E s
           rw[if_neg (by intro h;rw[hn,Bool.false_and]at h;cases h)]
           exact wY hQ))
noncomputable def V2 (K:PySem.W.Frag)(a:Addr):It :=
 ⟨λi H=>∃xs x,iP K H a xs/\xs[i]? = some x,λi H x H'=>H'=H/\∀xs,iP K H a xs->xs[i]? = some x,λi H=>∃xs,iP K H a xs/\xs.length<=i⟩
noncomputable def V3 (K:PySem.W.Frag)(a:Addr):It :=
 ⟨λi H=>∃xs x,jo K H a xs/\xs[i]? = some x,λi H x H'=>H'=H/\∀xs,jo K H a xs->xs[i]? = some x,λi H=>∃xs,jo K H a xs/\xs.length<=i⟩
noncomputable def Sq (lo:Int)(n:Nat):It:=⟨λi _=>i<n,λi H x H'=>H'=H/\x=.int (lo+i),λi _=>n<=i⟩
theorem Dt {P:Program}{w:World}{K:PySem.W.Frag}{tg:Expr}(a it:Addr):Turn P w K tg (V2 K a) [it] it (λi h=>h.IsListIter it a i) where
 mem:=by simp
 obj:=λi h st b hb=>by
  have e:b=it:=by simpa using hb
  subst e;obtain⟨o,e,c,d⟩:=st;exact⟨o,e,λv z=>by rw[d]at z;cases z⟩
 keep:=λi h h' st k=>st.at λo e=>k it (by simp) o e
 item:=by
  intro X hP hw hK hc i ae s σ H E I hf st hg;subst hP hw hK;obtain⟨xs,x,hq,hx⟩:=hg;obtain⟨its,rv,p,hz⟩:=I.list hq;obtain⟨u,hu,ru⟩:=rv.get hx;obtain⟨f0,f1,f2,f3,f4,f5⟩:=hf it (by simp);refine wpAny_pyNext_list_item st p.isList (x:=u) (by simpa using hu) λh' jm sb=>?_;have I1:Inv X ae σ H { s with heap:=h' }:=I.turned (t':=s.toks) (λb o hb e=>(sb.2 b hb).trans e) f0 f1 f3 f4 f5;obtain⟨o,e,c,d⟩:=id jm;exact⟨u,rfl,pY (s:={ s with heap:=h' }) e c d (by decide) ⟨x,H,I1,ru,⟨rfl,λys hy=>by rw[I.list_inj hy hq];exact hx⟩,jm,λb hb=>(hf b hb).1⟩⟩
 done:=by
  intro X hP hw hK hc i ae s σ H E I hf st hg;subst hP hw hK;obtain⟨xs,hq,hx⟩:=hg;obtain⟨its,rv,p,hz⟩:=I.list hq;obtain⟨f0,f1,f2,f3,f4,f5⟩:=hf it (by simp);have hl:=rv.length;exact wpAny_pyNext_list_end (I.ok.hd hc) st p.isList (by simp;omega) λh' eb=>⟨rfl,I.turned (t':=s.toks) (λb o hb e=>eb b o hb e) f0 f1 f3 f4 f5⟩
 self:=λ_ _ _ _ _ st h=>wpAny_pyIter_listiter st h
theorem Ar {P:Program}{w:World}{K:PySem.W.Frag}{tg:Expr}(a it:Addr):Turn P w K tg (V3 K a) [it] it (λi h=>h.IsTupleIter it a i) where
 mem:=by simp
 obj:=λi h st b hb=>by
  have e:b=it:=by simpa using hb
  subst e;obtain⟨o,e,c,d⟩:=st;exact⟨o,e,λv z=>by rw[d]at z;cases z⟩
 keep:=λi h h' st k=>st.at λo e=>k it (by simp) o e
 item:=by
  intro X hP hw hK hc i ae s σ H E I hf st hg;subst hP hw hK;obtain⟨xs,x,hq,hx⟩:=hg;obtain⟨its,rv,p,hz⟩:=I.tuple hq;obtain⟨u,hu,ru⟩:=rv.get hx;obtain⟨f0,f1,f2,f3,f4,f5⟩:=hf it (by simp);refine wpAny_pyNext_tuple_item st (show s.heap.IsTuple a its.toArray from p) (x:=u) (by simpa using hu) λh' jm sb=>?_;have I1:Inv X ae σ H { s with heap:=h' }:=I.turned (t':=s.toks) (λb o hb e=>(sb.2 b hb).trans e) f0 f1 f3 f4 f5;obtain⟨o,e,c,d⟩:=id jm;exact⟨u,rfl,pY (s:={ s with heap:=h' }) e c d (by decide) ⟨x,H,I1,ru,⟨rfl,λys hy=>by rw[I.tuple_inj hy hq];exact hx⟩,jm,λb hb=>(hf b hb).1⟩⟩
 done:=by
  intro X hP hw hK hc i ae s σ H E I hf st hg;subst hP hw hK;obtain⟨xs,hq,hx⟩:=hg;obtain⟨its,rv,p,hz⟩:=I.tuple hq;obtain⟨f0,f1,f2,f3,f4,f5⟩:=hf it (by simp);have hl:=rv.length;exact wpAny_pyNext_tuple_end (I.ok.hd hc) st (show s.heap.IsTuple a its.toArray from p) (by simp;omega) λh' eb=>⟨rfl,I.turned (t':=s.toks) (λb o hb e=>eb b o hb e) f0 f1 f3 f4 f5⟩
 self:=λ_ _ _ _ _ st h=>wpAny_pyIter_tupleiter st h
theorem As {P:Program}{w:World}{K:PySem.W.Frag}{tg:Expr}(it:Addr)(lo:Int)(n:Nat):Turn P w K tg (Sq lo n) [it] it (λi h=>IsRangeIter h it (lo+(i:Nat)*1) ((n:Int) - (i:Nat)) 1) where
 mem:=by simp
 obj:=λi h st b hb=>by
  have e:b=it:=by simpa using hb
  subst e;exact⟨_,st,λv z=>by
   have z':Data.fields _=Data.cell v:=z;cases z'⟩
 keep:=λi h h' st k=>k it (by simp) _ st
 item:=by
  intro X hP hw hK hc i ae s σ H E I hf st hg;subst hP hw hK;obtain⟨f0,f1,f2,f3,f4,f5⟩:=hf it (by simp);have W:=Walks.range (prog:=X.prog) (w:=X.w) (I.ok.hd hc) it lo 1 n;refine W.item i s _ _ hg st λv h' tk hv jm kk=>?_;obtain⟨t,rfl⟩:=hv;have I1:Inv X ae σ H { s with heap:=h',toks:=tk }:=I.turned (λb o hb e=>kk b o (by simpa using hb) e) f0 f1 f3 f4 f5;refine⟨_,rfl,pY (s:={ s with heap:=h',toks:=tk }) (n:="range_iterator") jm rfl rfl (by decide) ⟨.int (lo+i),H,I1,⟨t,?_⟩,⟨rfl,rfl⟩,jm,λb hb=>(hf b hb).1⟩⟩;rw[Int.mul_one]
 done:=by
  intro X hP hw hK hc i ae s σ H E I hf st hg;subst hP hw hK;obtain⟨f0,f1,f2,f3,f4,f5⟩:=hf it (by simp);exact wpAny_pyNext_range_end (I.ok.hd hc) st (by have:n<=i:=hg;omega) λh' eb=>⟨rfl,I.turned (t':=s.toks) (λb o hb e=>eb b o hb e) f0 f1 f3 f4 f5⟩
 self:=λ_ _ _ _ _ st h=>wpAny_pyIter_rangeiter st h
section
variable {X:Cx}{tg:Expr}
def Qb (K:PySem.W.Frag)(tl:TE):TI:=λσ H R=>tl σ H λx H1=>∃a,x=.ref a/\(∃xs,iP K H1 a xs)/\R (V2 K a) H1
def Tn (K:PySem.W.Frag)(tl:TE):TI:=λσ H R=>tl σ H λx H1=>∃a,x=.ref a/\(∃xs,jo K H1 a xs)/\R (V3 K a) H1
theorem IJ {l:Expr}{tl:TE}(hl:PE X l tl):PI X tg l (Qb X.K tl):=by
 intro ae s σ H R I h;refine cY (hl ae s σ H _ I h) λv s1 ⟨x,H1,I1,r1,q1⟩=>?_;obtain⟨a,e,⟨xs,hq⟩,q⟩:=q1;subst e;cases r1
 obtain⟨its,rv,p,hz⟩:=I1.list hq;refine wpAny_pyIter_list p.isList ?_;refine⟨s1.heap.objs.size,[s1.heap.objs.size],_,_,H1,rfl,I1.kept (t':=s1.toks) λb o e=>vZ _ e,Dt a _,⟨_,vY _ rfl,rfl,rfl⟩,λb hb=>?_,q⟩;have e:b=s1.heap.objs.size:=by simpa using hb
 subst e;exact I1.fpOk (vT _) (I1.hok.fresh (vT _))
theorem MH {l:Expr}{tl:TE}(hl:PE X l tl):PI X tg l (Tn X.K tl):=by
 intro ae s σ H R I h;refine cY (hl ae s σ H _ I h) λv s1 ⟨x,H1,I1,r1,q1⟩=>?_;obtain⟨a,e,⟨xs,hq⟩,q⟩:=q1;subst e;cases r1
 obtain⟨its,rv,p,hz⟩:=I1.tuple hq;refine wpAny_pyIter_tuple (show s1.heap.IsTuple a its.toArray from p) ?_;refine⟨s1.heap.objs.size,[s1.heap.objs.size],_,_,H1,rfl,I1.kept (t':=s1.toks) λb o e=>vZ _ e,Ar a _,⟨_,vY _ rfl,rfl,rfl⟩,λb hb=>?_,q⟩;have e:b=s1.heap.objs.size:=by simpa using hb
 subst e;exact I1.fpOk (vT _) (I1.hok.fresh (vT _))
theorem Fc {ae:List (Addr×Obj)}{σ:St}{H:Hp}{s:Shared}{R:It->Hp->Prop}{E:Value->Shared->Prop}{lo hi:Int}{t u v:Tok}{tk:Nat}(I:Inv X ae σ H s)(h1 : -(2 ^ 62)<=lo)(h2:lo<2 ^ 62)(h3 : -(2 ^ 62)<=hi)(h4:hi<2 ^ 62)
  (q:R (Sq lo (hi - lo).toNat) H):wpAny (model X.prog X.w) X.A (pyIter (.ref s.heap.objs.size)) (V1 X ae σ tg R) E { s with heap:=s.heap.push { cls:=.type "range",data:=.fields #[.int lo t,.int hi u,.int 1 v] },toks:=tk }:=by
 refine wpAny_pyIter_range (IsRange.new ..) (small_one h1 h2 h3 h4) ?_;have I1:Inv X ae σ H { s with heap:=s.heap.push { cls:=.type "range",data:=.fields #[.int lo t,.int hi u,.int 1 v] },toks:=tk }:=I.kept λb o e=>vZ _ e;refine⟨(s.heap.push { cls:=.type "range",data:=.fields #[.int lo t,.int hi u,.int 1 v] }).objs.size,[(s.heap.push { cls:=.type "range",data:=.fields #[.int lo t,.int hi u,.int 1 v] }).objs.size],_,_,H,rfl,
  I1.kept (t':=tk) λb o e=>vZ _ e,As _ lo (hi - lo).toNat,?_,λb hb=>?_,q⟩
 ·have e1:lo+((0:Nat):Int)*1=lo:=by simp
  have e2:(((hi - lo).toNat:Nat):Int) - ((0:Nat):Int)=Builtin.Range.rangeSize lo hi 1:=by rw[rangeSize_one];split<;>omega
  show IsRangeIter _ _ (lo+((0:Nat):Int)*1) ((((hi - lo).toNat:Nat):Int) - ((0:Nat):Int)) 1;rw[e1,e2];exact vY _ rfl
 ·have e:b=(s.heap.push { cls:=.type "range",data:=.fields #[.int lo t,.int hi u,.int 1 v] }).objs.size:=by simpa using hb
  subst e;exact I1.fpOk (vT _) (I1.hok.fresh (vT _))
def Qc (ta:TA):TI:=λσ H R=>ta σ H λvs H1=>∃j:Int,vs=[.int j]/\-(2 ^ 62)<=j/\j<2 ^ 62/\R (Sq 0 j.toNat) H1
theorem Du {a:Expr}{ta:TA}{p pos:Pos}(hg:Gl X "range")(hm:X.mg "range" = none)(ha:PA X [a] ta)(hs:starEach [a] X.env=[(false,eval a X.env)]:=by rfl):PI X tg (.Call (.Name "range" p) [a] [] pos) (Qc ta):=by
 intro ae s σ H R I h;refine Call_ (lP I hg hm boot_range (PyProof.Rows.callWith_type1 (cY (ha pos ae s σ H _ I h) λus s1 ⟨vs,H1,I1,r1,q1⟩=>?_) hs rfl));obtain⟨j,e,q1,q2,q⟩:=q1;subst e;cases r1 with
 |cons r rr=>
  cases rr
  obtain⟨t,rfl⟩:=r;exact call_range_1 (Fc I1 (by omega) (by omega) q1 q2 (by simpa using q))
def MI (wi:TI)(g:TG)(tb:TS):TS:=λD σ H=>wi σ H λJ H1=>∃W:Nat->Nat->St->Hp->Prop,(∃m,W 0 m σ H1)/\∀i m σ H,W i m σ H ->
 (J.stop i H/\D.nx σ H)∨(J.go i H/\∃N:St->Hp->Prop,(∀σ' H',N σ' H'->∃m',m'<m/\W (i+1) m' σ' H')/\∀x H',J.yld i H x H'->g x σ H' λσ2 H2=>tb { D with nx:=N,ct:=N,bk:=D.nx } σ2 H2)
def nQ (fp:List Addr)(h:Heap):List (Addr×Obj):=fp.filterMap λb=>(h.get? b).map λo=>(b,o)
theorem jH {fp:List Addr}{h:Heap}{b:Addr}{o:Obj}(hb:b∈fp)(e:h.get? b=some o):(b,o)∈nQ fp h:=List.mem_filterMap.mpr ⟨b,hb,by rw[e];rfl⟩
theorem Dv (hp:p∈nQ fp h):p.1∈fp/\h.get? p.1=some p.2:=by
 obtain⟨b,hb,e⟩:=List.mem_filterMap.mp hp;cases q:h.get? b with
 |none=>rw[q]at e;cases e
 |some o=>
  rw[q]at e;have e':(b,o)=p:=vK e;subst e';exact⟨hb,q⟩
theorem Inv.pinned (I:Inv X ae σ H s)(hf:∀b∈fp,nO X ae H b)(ho:∀b∈fp,∃o,s.heap.get? b=some o/\∀v,o.data≠.cell v):Inv X (ae++nQ fp s.heap) σ H s :=
 I.pins_of λp hp=>(List.mem_append.mp hp).elim (λz=>I.pin p (mY _ z)) λz=>by
  obtain⟨hb,e⟩:=Dv z;obtain⟨f0,f1,f2,_⟩:=hf p.1 hb;obtain⟨o,e',d⟩:=ho p.1 hb;rw[e]at e';cases e';exact⟨e,f0,f1,f2,d⟩
theorem Inv.unpinned (I:Inv X (ae++pl) σ H s):Inv X ae σ H s:=I.pins_of λp hp=>I.pin p (mY _ (List.mem_append_left _ hp))
theorem Fd {dr:Expr}{body:List Stmt}{wi:TI}{g:TG}{tb:TS}{pos:Pos}(hp:PassesOwn (model X.prog X.w) X.A X.env X.xe)(hc:X.calm=true)(hi:PI X tg dr wi)(hg:PG X tg g)(hb:wa X body tb)
  (hs:∀x,foldedSetIterable dr X.env x=pure x:=by intro _;rfl):PS X (.For tg dr body [] pos) (MI wi g tb):=by
 intro ae s σ H D I h;refine wpAny_For (cY (hi ae s σ H _ I h) λv s1 h1=>cY h1 λSD s2 h2=>?_) hs;obtain⟨it,fp,tn,J,H2,e,I2,T,KG,f2,W,⟨m0,w0⟩,KH⟩:=h2;subst e
 -- what stays true of the iterator's objects through the loop
 have Ou:∀ {H':Hp},(∀b∈fp,H' b=none)->∀b∈fp,nO X ae H' b:=λhn b hb=>⟨hn b hb,(f2 b hb).2⟩;refine codeAny_forLoop_any (λn s'=>∃i σ' H',Inv X ae σ' H' s'/\tn i s'.heap/\(∀b∈fp,H' b=none)/\W i n σ' H') ?_ m0 ⟨0,σ,H2,I2,KG,λb hb=>(f2 b hb).1,w0⟩;rintro n s3 ⟨i,σ3,H3,I3,Wf,Wg,w3⟩;rcases KH i n σ3 H3 w3 with⟨stop,qn⟩|⟨go,N,hN,step⟩
 ·refine wpAny_passesOwn hp (cY (T.done X rfl rfl rfl hc i ae s3 σ3 H3 X.xe I3 (Ou Wg) Wf stop) λr s4 ⟨hr,I4⟩=>?_);subst hr;exact wpAny_execs_nil ⟨σ3,H3,I4,qn⟩
 ·refine wpAny_passesOwn hp (cY (T.item X rfl rfl rfl hc i ae s3 σ3 H3 X.xe I3 (Ou Wg) Wf go) λr s4 ⟨u,hr,h4⟩=>?_);subst hr;refine wpAny_passesOwn hp (cY h4 λ_ s5 ⟨x,H5,I5,r5,y5,Uo,Uq⟩=>?_);have Ur:=I5.pinned (Ou Uq) (T.obj _ _ Uo);refine wpAny_passesOwn hp (cY (hg _ s5 σ3 H5 x u _ Ur r5 (step x H5 y5)) λ_ s6 ⟨σ6,H6,I6,q6⟩=>?_);refine wpAny_passesOwn hp (cY (hb _ s6 σ6 H6 _ I6 q6) λf s7 q7=>?_);have again:∀ {σ7:St}{H7:Hp},Inv X (ae++nQ fp s5.heap) σ7 H7 s7->N σ7 H7->∃m,m<n/\∃i σ' H',Inv X ae σ' H' s7/\tn i s7.heap/\(∀b∈fp,H' b=none)/\W i m σ' H':=λ{σ7 H7} I7 n7=>by
   obtain⟨m',hm,w7⟩:=hN σ7 H7 n7;refine⟨m',hm,i+1,σ7,H7,I7.unpinned,T.keep _ _ _ Uo λb hb o e=>(I7.pin (b,o) (mY _ (mY _ (jH hb e)))).1,λb hb=>?_,w7⟩;obtain⟨o,e,d⟩:=T.obj _ _ Uo b hb;exact(I7.pin (b,o) (mY _ (mY _ (jH hb e)))).2.1
  cases f with
  |next=>obtain⟨σ7,H7,I7,n7⟩:=q7;exact again I7 n7
  |cont=>obtain⟨σ7,H7,I7,n7⟩:=q7;exact again I7 n7
  |brk=>obtain⟨σ7,H7,I7,q7⟩:=q7;exact⟨σ7,H7,I7.unpinned,q7⟩
  |ret v=>obtain⟨x7,σ7,H7,I7,r7,q7⟩:=q7;exact⟨x7,σ7,H7,I7.unpinned,r7,q7⟩
end
abbrev R2:=V->V->Hp->VK->Prop
def dR (X:Cx)(f:Value->Value->Sem Value)(r:R2):Prop :=
 ∀(ae:List (Addr×Obj))(s:Shared)(σ:St)(H:Hp)(x y:V)(v u:Value)(Q:VK),Inv X ae σ H s->ba x v->ba y u->r x y H Q ->
  wpAny (model X.prog X.w) X.A (f v u) (EP X ae σ Q) X.xe s
def Qd (X:Cx)(f:Value->Sem Value)(r:V->Hp->VK->Prop):Prop :=
 ∀(ae:List (Addr×Obj))(s:Shared)(σ:St)(H:Hp)(x:V)(v:Value)(Q:VK),Inv X ae σ H s->ba x v->r x H Q ->
  wpAny (model X.prog X.w) X.A (f v) (EP X ae σ Q) X.xe s
def bT (X:Cx)(f:Value)(r:List V->Hp->VK->Prop):Prop :=
 ∀(ae:List (Addr×Obj))(s:Shared)(σ:St)(H:Hp)(xs:List V)(us:List Value)(Q:VK),Inv X ae σ H s->aX xs us->r xs H Q ->
  wpAny (model X.prog X.w) X.A (call f us) (EP X ae σ Q) X.xe s
def Sr (r:R2)(ta tb:TE):TE:=λσ H Q=>ta σ H λx H1=>tb σ H1 λy H2=>r x y H2 Q
def Xs (r:V->Hp->VK->Prop)(ta:TE):TE:=λσ H Q=>ta σ H λx H1=>r x H1 Q
def rI (C:Int->Int->Prop)(g:Int->Int->V):R2:=λx y H Q=>∃i j,x=.int i/\y=.int j/\C i j/\Q (g i j) H
def Il (g:Int->Int->V):R2:=λx y H Q=>∃i j,x=.int i/\y=.int j/\Q (g i j) H
def rU (g:Int->V):V->Hp->VK->Prop:=λx H Q=>∃i,x=.int i/\Q (g i) H
section
variable {X:Cx}{a b c:Expr}{ta tb tc:TE}{pos:Pos}
theorem MJ (ha:PE X a ta)(hb:PE X b tb){ae:List (Addr×Obj)}{s:Shared}{σ:St}{H:Hp}{R:V->V->Hp->Prop}(I:Inv X ae σ H s)
  (h:ta σ H λx H1=>tb σ H1 λy H2=>R x y H2) {Q:Value->Shared->Prop}{f:Value->Value->Sem Value}
  (hf:∀v u s2 x y H2,Inv X ae σ H2 s2->ba x v->ba y u->R x y H2->wpAny (model X.prog X.w) X.A (f v u) Q X.xe s2):
  wpAny (model X.prog X.w) X.A (eval a X.env) (λv s₁=>wpAny (model X.prog X.w) X.A (eval b X.env) (λu s₂=>wpAny (model X.prog X.w) X.A (f v u) Q X.xe s₂) X.xe s₁) X.xe s:=by
 refine cY (ha ae s σ H _ I h) λv s1 ⟨x,H1,I1,r1,q1⟩=>?_;refine cY (hb ae s1 σ H1 _ I1 q1) λu s2 ⟨y,H2,I2,r2,q2⟩=>?_;exact hf v u s2 x y H2 I2 r1 r2 q2
theorem Li {op:Operator}{r:R2}(ho:dR X (binaryOp op) r)(ha:PE X a ta)(hb:PE X b tb):PE X (.BinOp a op b pos) (Sr r ta tb):=by
 intro ae s σ H Q I h;exact wpAny_BinOp (MJ ha hb I h λv u s2 x y H2 I2 rx ry q=>ho ae s2 σ H2 x y v u Q I2 rx ry q)
theorem Qe {op:UnaryOp}{r:V->Hp->VK->Prop}(ho:Qd X (unaryOp op) r)(ha:PE X a ta):PE X (.UnaryOp op a pos) (Xs r ta):=by
 intro ae s σ H Q I h;exact UnaryOp_ (cY (ha ae s σ H _ I h) λv s1 ⟨x,H1,I1,r1,q1⟩=>ho ae s1 σ H1 x v Q I1 r1 q1)
theorem To {f:Value->Value->Sem Value}{C:Int->Int->Prop}{g:Int->Int->Int}
  (rule:∀(i j:Int)(t u:Tok)(s:Shared)(Q:Value->Shared->Prop)(E:Value->Shared->Prop),C i j->Q (.int (g i j) s.toks) { s with toks:=s.toks+1 }->wpAny (model X.prog X.w) X.A (f (.int i t) (.int j u)) Q E s):
  dR X f (rI C λi j=>.int (g i j)):=by
 intro ae s σ H x y v u Q I rx ry h;obtain⟨i,j,rfl,rfl,hc,q⟩:=h;obtain⟨t,rfl⟩:=rx;obtain⟨t',rfl⟩:=ry;exact rule i j t t' s _ _ hc ⟨.int (g i j),H,I.tok _,⟨_,rfl⟩,q⟩
theorem MK {f:Value->Value->Sem Value}{g:Int->Int->Int}
  (rule:∀(i j:Int)(t u:Tok)(s:Shared)(Q:Value->Shared->Prop)(E:Value->Shared->Prop),Q (.int (g i j) s.toks) { s with toks:=s.toks+1 }->wpAny (model X.prog X.w) X.A (f (.int i t) (.int j u)) Q E s):
  dR X f (Il λi j=>.int (g i j)):=by
 intro ae s σ H x y v u Q I rx ry h;obtain⟨i,j,rfl,rfl,q⟩:=h;obtain⟨t,rfl⟩:=rx;obtain⟨t',rfl⟩:=ry;exact rule i j t t' s _ _ ⟨.int (g i j),H,I.tok _,⟨_,rfl⟩,q⟩
theorem IK {f:Value->Value->Sem Value}{g:Int->Int->Bool}
  (rule:∀(i j:Int)(t u:Tok)(s:Shared)(Q:Value->Shared->Prop)(E:Value->Shared->Prop),Q (.bool (g i j)) s->wpAny (model X.prog X.w) X.A (f (.int i t) (.int j u)) Q E s):
  dR X f (Il λi j=>.bl (g i j)):=by
 intro ae s σ H x y v u Q I rx ry h;obtain⟨i,j,rfl,rfl,q⟩:=h;obtain⟨t,rfl⟩:=rx;obtain⟨t',rfl⟩:=ry;exact rule i j t t' s _ _ ⟨.bl (g i j),H,I,rfl,q⟩
def Qf (i j:Int):Prop:=0<j/\j<1073741824
def IL (i j:Int):Prop:=(-(2 ^ 64)<i/\i<2 ^ 64)∨(-(2 ^ 64)<j/\j<2 ^ 64)
theorem IL.ok (h:IL i j):IntMulOk i j:=by
 rcases h with⟨h1,h2⟩|⟨h1,h2⟩
 ·exact .of_left (intBits_le_64 h1 h2)
 ·exact .of_right (intBits_le_64 h1 h2)
theorem ML:dR X (binaryOp .Add) (Il λi j=>.int (i+j)):=MK λ_ _ _ _ _ _ _ q=>add_int q
theorem MN:dR X (binaryOp .Sub) (Il λi j=>.int (i - j)):=MK λ_ _ _ _ _ _ _ q=>sub_int q
theorem MO:dR X (binaryOp .Mult) (rI IL λi j=>.int (i*j)):=To λ_ _ _ _ _ _ _ hc q=>mul_int q hc.ok
theorem IM:dR X (binaryOp .FloorDiv) (rI Qf λi j=>.int (i / j)):=To λi j _ _ _ _ _ hc q=>by
 have h1:(0:Int)<j:=hc.1;have h2:j<1073741824:=hc.2;exact floordiv_int (by omega) (by rw[Int.fdiv_eq_ediv_of_nonneg i (by omega)];exact q) (.inl (PyProof.noPylong_small (by omega)))
theorem MP:dR X (binaryOp .Mod) (rI (λ_ j=>0<j) λi j=>.int (i % j)):=To λi j _ _ _ _ _ hc q=>by
 have h1:(0:Int)<j:=hc;exact mod_int' (by omega) (by rw[Int.fmod_eq_emod_of_nonneg i (by omega)];exact q)
theorem MQ:dR X (binaryOp .BitAnd) (Il λi j=>.int (Builtin.bitAnd i j)):=MK λ_ _ _ _ _ _ _ q=>and_int q
theorem Xt {f:Value->Sem Value}{g:Int->Int}
  (rule:∀(i:Int)(t:Tok)(s:Shared)(Q:Value->Shared->Prop)(E:Value->Shared->Prop),Q (.int (g i) s.toks) { s with toks:=s.toks+1 }->wpAny (model X.prog X.w) X.A (f (.int i t)) Q E s):
  Qd X f (rU λi=>.int (g i)):=by
 intro ae s σ H x v Q I rx h;obtain⟨i,rfl,q⟩:=h;obtain⟨t,rfl⟩:=rx;exact rule i t s _ _ ⟨.int (g i),H,I.tok _,⟨_,rfl⟩,q⟩
theorem MT:Qd X (unaryOp .USub) (rU λi=>.int (-i)):=Xt λ_ _ _ _ _ q=>neg_int q
theorem Dw:dR X (binaryOp .Add) (λx y H Q=>∃i k,x=.int i/\y=.bl k/\Q (.int (i+b2i k)) H):=by
 intro ae s σ H x y v u Q I rx ry h;obtain⟨i,k,rfl,rfl,q⟩:=h;obtain⟨t,rfl⟩:=rx;cases ry
 exact add_int_bool ⟨.int (i+b2i k),H,I.tok _,⟨_,rfl⟩,q⟩
end
section
variable {X:Cx}{a b c:Expr}{ta tb tc:TE}{pos:Pos}
theorem Qg:dR X (compareOp .Lt) (Il λi j=>.bl (decide (i<j))):=IK λ_ _ _ _ _ _ _ q=>lt_int q
theorem Qh:dR X (compareOp .LtE) (Il λi j=>.bl (decide (i<=j))):=IK λ_ _ _ _ _ _ _ q=>le_int q
theorem Qi:dR X (compareOp .Gt) (Il λi j=>.bl (decide (j<i))):=IK λ_ _ _ _ _ _ _ q=>gt_int q
theorem Qj:dR X (compareOp .GtE) (Il λi j=>.bl (decide (j<=i))):=IK λ_ _ _ _ _ _ _ q=>ge_int q
theorem dR.or (h:dR X f r)(h':dR X f r'):dR X f (λx y H Q=>r x y H Q∨r' x y H Q):=by
 intro ae s σ H x y v u Q I rx ry q;rcases q with q|q
 ·exact h ae s σ H x y v u Q I rx ry q
 ·exact h' ae s σ H x y v u Q I rx ry q
theorem Tp (b:Expr)(h:op≠.In:=by decide)(h2:op≠.NotIn:=by decide):behindInMarks op b=false:=by
 have e1:(op == CmpOp.In)=false:=by cases op<;>first|rfl|exact absurd rfl h
 have e2:(op == CmpOp.NotIn)=false:=by cases op<;>first|rfl|exact absurd rfl h2
 cases b<;>simp[behindInMarks,e1,e2]
theorem IN (ho:dR X (compareOp op) r)(ha:PE X a ta)(hb:PE X b tb)(hm:behindInMarks op b=false):PE X (.Compare a [op] [b] pos) (Sr r ta tb):=by
 intro ae s σ H Q I h;exact wpAny_Compare1 (MJ ha hb I h λv u s2 x y H2 I2 rx ry q=>ho ae s2 σ H2 x y v u Q I2 rx ry q) hm
def Qk (t:TE):TT:=λσ H Q=>t σ H λx H'=>∃k,x=.bl k/\Q k H'
theorem IP {op:CmpOp}{r:R2}(ho:dR X (compareOp op) r)(ha:PE X a ta)(hb:PE X b tb)(hm:behindInMarks op b=false):PT X (.Compare a [op] [b] pos) (Qk (Sr r ta tb)):=by
 intro ae s σ H Q I h;refine wpAny_isTrue_Compare1 (cY (ha ae s σ H _ I h) λv s1 ⟨x,H1,I1,r1,q1⟩=>cY (hb ae s1 σ H1 _ I1 q1) λu s2 ⟨y,H2,I2,r2,q2⟩=>
  cY (ho ae s2 σ H2 x y v u _ I2 r1 r2 q2) λc s3 ⟨z,H3,I3,r3,k,e,q3⟩=>?_) hm
 subst e;cases r3
 exact wpAny_truthy_bool ⟨H3,I3,q3⟩
def Fe (r r':R2)(ta tb tc:TE):TE:=λσ H Q=>ta σ H λx H1=>tb σ H1 λy H2=>r x y H2 λz H3=>∃k,z=.bl k /\
 (if k=true then tc σ H3 λw' H4=>r' y w' H4 Q else Q (.bl false) H3)
theorem Ff {op Pm:CmpOp}{r r':R2}(ho:dR X (compareOp op) r)(xB:dR X (compareOp Pm) r')(ha:PE X a ta)(hb:PE X b tb)(hc:PE X c tc)
  (hm:lastMarks [op,Pm] [b,c]=false:=by with_unfolding_all rfl):PE X (.Compare a [op,Pm] [b,c] pos) (Fe r r' ta tb tc):=by
 intro ae s σ H Q I h;refine Compare_chain (cY (ha ae s σ H _ I h) λv s1 ⟨x,H1,I1,r1,q1⟩=>chain_link (cY (hb ae s1 σ H1 _ I1 q1) λu s2 ⟨y,H2,I2,r2,q2⟩=>
  cY (ho ae s2 σ H2 x y v u _ I2 r1 r2 q2) λd s3 ⟨z,H3,I3,r3,k,e,q3⟩=>?_)) hm
 subst e;cases r3
 refine wpAny_truthy_bool ?_;cases k with
 |false=>exact ite_ff ⟨.bl false,H3,I3,rfl,q3⟩
 |true=>exact ite_tt (chain_last (cY (hc ae s3 σ H3 _ I3 q3) λw' s4 ⟨z',H4,I4,r4,q4⟩=>xB ae s4 σ H4 y z' u w' Q I4 r2 r4 q4))
theorem nR:(sizeLine:Nat)<2 ^ 63:=by rw[sizeLine_eq];decide
theorem Au:dR X (binaryOp .Add) (λx y H Q=>∃i j,x=.str i/\y=.str j/\i.length+j.length<=sizeLine/\Q (.str (i++j)) H):=by
 intro ae s σ H x y v u Q I rx ry h;obtain⟨i,j,rfl,rfl,hz,q⟩:=h;obtain⟨t,rfl⟩:=rx;obtain⟨t',rfl⟩:=ry;exact add_str (λt' tk=>⟨.str (i++j),H,I.tok _,⟨_,rfl⟩,q⟩) hz
theorem gZ (r:aX [x] us):∃u,us=[u]/\ba x u:=by
 cases r with
 |cons r1 r2=>cases r2;exact⟨_,rfl,r1⟩
theorem Fg (r:aX [x,y] us):∃u w',us=[u,w']/\ba x u/\ba y w':=by
 cases r with
 |cons r1 r2=>
  cases r2 with
  |cons r3 r4=>cases r4;exact⟨_,_,rfl,r1,r3⟩
theorem Dx (hc:X.calm=true):bT X (.builtin "max") (λxs H Q=>∃i j,xs=[.int i,.int j]/\Q (.int (if j > i then j else i)) H):=by
 intro ae s σ H xs us Q I r h;obtain⟨i,j,rfl,q⟩:=h;obtain⟨u,w',rfl,⟨t,rfl⟩,⟨t',rfl⟩⟩:=Fg r;refine max_two_ints (I.ok.hd hc) λh' tk k=>⟨_,H,I.kept k,?_,q⟩;by_cases hj:j > i
 ·rw[if_pos hj,if_pos hj];exact⟨_,rfl⟩
 ·rw[if_neg hj,if_neg hj];exact⟨_,rfl⟩
theorem Dy (hc:X.calm=true):bT X (.builtin "min") (λxs H Q=>∃i j,xs=[.int i,.int j]/\Q (.int (if j<i then j else i)) H):=by
 intro ae s σ H xs us Q I r h;obtain⟨i,j,rfl,q⟩:=h;obtain⟨u,w',rfl,⟨t,rfl⟩,⟨t',rfl⟩⟩:=Fg r;refine min_two_ints (I.ok.hd hc) λh' tk k=>⟨_,H,I.kept k,?_,q⟩;by_cases hj:j<i
 ·rw[if_pos hj,if_pos hj];exact⟨_,rfl⟩
 ·rw[if_neg hj,if_neg hj];exact⟨_,rfl⟩
theorem Dz:bT X (.type "int") (λxs H Q=>(∃i,xs=[.int i]/\Q (.int i) H)∨∃k,xs=[.bl k]/\Q (.int (if k then 1 else 0)) H):=by
 intro ae s σ H xs us Q I r h;rcases h with⟨i,rfl,q⟩|⟨k,rfl,q⟩
 ·obtain⟨u,rfl,t,rfl⟩:=gZ r;exact call_int_int ⟨.int i,H,I,⟨_,rfl⟩,q⟩
 ·obtain⟨u,rfl,r1⟩:=gZ r;cases r1
  exact call_int_bool ⟨.int (if k then 1 else 0),H,I.tok _,⟨_,rfl⟩,q⟩
end
structure KI (h:Heap)(x dx C:Addr)(mA:Str->Option Value):Prop where
 obj:h.get? x=some (PySem.W.instObj C dx)
 ns:h.Ns1 dx mA
 ne:dx≠x
theorem D0 {h:Heap}{dx:Addr}{mA:Str->Option Value}(n:h.Ns1 dx mA):∃od,h.get? dx=some od/\∀name,PySem.W.lookIn name od=some (mA name):=by
 obtain⟨o,es,ep,ho,hd,hk,_,hm⟩:=n;refine⟨o,ho,λname=>?_⟩;have e:=hm name;unfold nsFind findBy at e;rw[←Array.find?_toList]at e;unfold PySem.W.lookIn;rw[hd];dsimp only;split
 ·rename_i y q;rw[q]at e;exact congrArg some e
 ·rename_i q;rw[q]at e;have a:es.toList.any (·.refKey)=false:=by
   rw[List.any_eq_false];intro y hy;obtain⟨z,t,zX⟩:=hk y (Array.mem_toList_iff.mp hy);simp[DictEntry.refKey,zX]
  have a':¬es.toList.any (·.refKey)=true:=by rw[a];exact uX
  rw[if_neg a'];exact congrArg some e
theorem KI.look (I:KI h x dx C mA):∃od,PySem.W.InstAt h x (PySem.W.instObj C dx) C (some od)/\∀name,PySem.W.lookIn name od=some (mA name) :=
 let ⟨od,ho,hl⟩:=D0 I.ns
 ⟨od,⟨I.obj,rfl,rfl,ho⟩,hl⟩
section
variable {prog:Program}{w:World}{A:Around}{E:Value->Shared->Prop}{s:Shared}{K:PySem.W.Frag}{x dx C f:Addr}{mA:Str->Option Value}{name:Str}{v:Value}
theorem Fh (X:K.In s.heap)(I:KI s.heap x dx C mA)(hg:PySem.W.plainGet K C name=true)
  (hf:PySem.W.findIn K (.ref C) name=some (some (.ref f))) (ht:PySem.W.isFn K (.ref f)=true) (hv:mA name=none) (h:Q (.ref f,[.ref x]) s):
  wpAny (model prog w) A (getMethod (.ref x) name pl) Q E s:=by
 obtain⟨od,J,hl⟩:=I.look;exact PySem.W.method_fn X J (PySem.W.plainGet_of hg).1 (PySem.W.plainGet_of hg).2 hf (beq_iff_eq.mp ht) (by show(PySem.W.lookIn name od).map (·.isSome)=some false;rw[hl,hv];rfl) h
theorem Ql (X:K.In s.heap)(hm:PySem.W.makesIn K C=true)
  (hi:PySem.W.findIn K (.ref C) "__init__" = some (some (.ref f))) (hf:PySem.W.typeIn K (.ref f)=some (.type "function"))
  (h:codeAny (model prog w) (A.under (.builtin "type.__call__" ⟨.ref C::vs,kw⟩)) (.call (.ref f) ⟨.ref (s.heap.objs.size+1)::vs,kw⟩) (PySem.W.InitBack (s.heap.objs.size+1) R)
   { s with heap:=(s.heap.push PySem.W.emptyDict).push (PySem.W.instObj C s.heap.objs.size) }):
  codeAny (model prog w) A (.call (.ref C) ⟨vs,kw⟩) R s:=by
 obtain⟨hh,g,d,t,os⟩:=s;exact PySem.W.make_core (PySem.W.makes_of X hm) (PySem.W.looks_findIn X hi) (λself=>PySem.W.bind_fn X self hf) (.inl rfl) h
end
theorem p6.none_of (r:p6 none o):o=none:=by
 cases o with
 |none=>rfl
 |some u=>exact(show False from r).elim
section
variable {P:Program}{w:World}{H H':Hp}{h h':Heap}{a C dx:Addr}{fs Yh:List (Str×V)}
theorem BE (hok:lz P w H h)(e:H a=some (.ins C dx fs)):∃mA,KI h a dx C mA/\(∀f,p6 (fs.lookup f) (mA f))/\PySem.Within mA (fs.map (·.1))/\fs.length<=1000/\H dx=some (.own a):=by
 obtain⟨d,z,ne,ob,mA,n,r,q⟩:=(show bR P w H h a (.ins C dx fs)from hok a _ e);exact⟨mA,⟨ob,n,ne⟩,r,q,z,d⟩
end
structure Cls (K:PySem.W.Frag)(C:Addr):Prop where
 pg:PySem.W.plainGet K C Str.empty=true
 hd:PySem.W.hasDictIn K C=true
 po:PySem.W.plainOver K C=true
 sa:PySem.W.findIn K (.ref C) "__setattr__" = some (some (.builtin "object.__setattr__"))
theorem Cls.get {K:PySem.W.Frag}{C:Addr}(c:Cls K C)(f:Str):PySem.W.plainGet K C f=true:=c.pg
def MU (K:PySem.W.Frag)(C:Addr)(f:Str):Prop:=PySem.W.findIn K (.ref C) f=some none
structure Meth (K:PySem.W.Frag)(C:Addr)(m:Str)(f:Addr):Prop where
 at_:PySem.W.findIn K (.ref C) m=some (some (.ref f))
 fn:PySem.W.isFn K (.ref f)=true
 kp:PySem.W.keepIn K (.ref f)=true
section
variable {X:Cx}{ae:List (Addr×Obj)}{σ:St}{H:Hp}{s:Shared}{a C dx:Addr}{fs:List (Str×V)}{f:Str}{v:V}{A:Around}{E:Value->Shared->Prop}
theorem Av {m:Str}{g:Addr}{pl:Sem Bool}{Q:Value×List Value->Shared->Prop}(I:Inv X ae σ H s)(e:H a=some (.ins C dx fs))(c:Cls X.K C)(k:Meth X.K C m g)(l:fs.lookup m=none)
  (h:Q (.ref g,[.ref a]) s):wpAny (model X.prog X.w) A (getMethod (.ref a) m pl) Q E s:=by
 obtain⟨mA,O,r,_,_,_⟩:=BE I.hok e;have hn:mA m=none:=p6.none_of (by rw[←l];exact r m);exact Fh I.kIn O (c.get m) k.at_ k.fn hn h
theorem Inv.made (I:Inv X ae σ H s):Inv X ae σ (upd (upd H s.heap.objs.size (.own (s.heap.objs.size+1))) (s.heap.objs.size+1) (.ins C s.heap.objs.size []))
  { s with heap:=(s.heap.push PySem.W.emptyDict).push (PySem.W.instObj C s.heap.objs.size) }:=by
 have e1:(s.heap.push PySem.W.emptyDict).get? s.heap.objs.size=some PySem.W.emptyDict:=vY s.heap rfl;have e2:((s.heap.push PySem.W.emptyDict).push (PySem.W.instObj C s.heap.objs.size)).get? (s.heap.objs.size+1)=some (PySem.W.instObj C s.heap.objs.size):=by
  have:=vY (s.heap.push PySem.W.emptyDict) (o:=PySem.W.instObj C s.heap.objs.size) rfl;rwa [Heap.size_push]at this
 have e3:(s.heap.push PySem.W.emptyDict).Ns s.heap.objs.size (λ_=>none):=⟨PySem.W.emptyDict,#[],_,e1,rfl,(λe he=>absurd he (by simp)),λ_=>rfl⟩;have I1:=I.laid (a:=s.heap.objs.size) (o:=.own (s.heap.objs.size+1)) (h':=s.heap.push PySem.W.emptyDict) (t':=s.toks) (λb u q=>vZ _ q) (vT _) ⟨_,e1⟩;refine I1.laid (a:=s.heap.objs.size+1) (o:=.ins C s.heap.objs.size []) (t':=s.toks) (λb u q=>vZ _ q) (Nat.le_of_eq (Heap.size_push _ _)) ?_;have ne:s.heap.objs.size≠s.heap.objs.size+1:=vS (Nat.lt_succ_self _);refine⟨by rw[aK ne,aG],uN _,ne,e2,λ_=>none,(Heap.Ns1.of_empty e3).at λo q=>vZ _ q,λ_=>True.intro,λy hy=>absurd rfl hy⟩
end
def Xu (K:PySem.W.Frag)(ta:TE)(f:Str):TE:=λσ H Q=>ta σ H λx H1=>∃a C dx fs v,x=.ref a/\H1 a=some (.ins C dx fs)/\Cls K C/\MU K C f/\fs.lookup f=some v/\Q v H1
section
variable {X:Cx}{o e value:Expr}{f:Str}{pos zW E9:Pos}{ta tv:TE}
theorem Lj {pl:Sem Bool}{m:Str}{dM:Pos}{args:List Expr}{ae:List (Addr×Obj)}{s:Shared}{σ:St}{H:Hp}{Q:Value->Shared->Prop}{te:TE}(he:PE X e te)(I:Inv X ae σ H s)
  (h:te σ H λx H1=>∃a C dx fs g,x=.ref a/\H1 a=some (.ins C dx fs)/\Cls X.K C/\Meth X.K C m g/\fs.lookup m=none /\
   ∀s1,Inv X ae σ H1 s1->wpAny (model X.prog X.w) X.A (callWith pos (.ref g) [.ref a] (backTo pos (starEach args X.env)) (backToKw pos (keywordEach [] X.env))) Q X.xe s1)
  (ht:eval (.Call (.Attribute e m dM) args [] pos) X.env=(do
   let ov ←eval e X.env
   standAt dM.atName
   let (f,first) ←holding [ov] (getMethod ov m pl)
   callWith pos f first (backTo pos (starEach args X.env)) (backToKw pos (keywordEach [] X.env)))):
  wpAny (model X.prog X.w) X.A (eval (.Call (.Attribute e m dM) args [] pos) X.env) Q X.xe s:=by
 refine PySem.W.methodCall_KW (pl:=pl) (cY (he ae s σ H _ I h) λu s1 ⟨x,H1,I1,rx,a,C,dx,fs,g,ex,ea,c,k,l,q⟩=>?_) ht;subst ex;obtain rfl:u=Value.ref a:=rx;exact Av I1 ea c k l (q s1 I1)
end
section
variable {X:Cx}{ae:List (Addr×Obj)}{σ:St}{H:Hp}{s:Shared}{A:Around}{E:Value->Shared->Prop}{Q:Value->Shared->Prop}{c:Value}{b:Bool}
inductive TyOf (K:PySem.W.Frag)(H:Hp):V->Value->Prop where
 |non:TyOf K H .non (.type "NoneType")
 |bl (x:Bool):TyOf K H (.bl x) (.type "bool")
 |int (i:Int):TyOf K H (.int i) (.type "int")
 |str (x:Str):TyOf K H (.str x) (.type "str")
 |flt (x:UInt64):TyOf K H (.flt x) (.type "float")
 |lst {a:Addr}{xs:List V}(e:H a=some (.lst xs)):TyOf K H (.ref a) (.type "list")
 |frz {a:Addr}{o:Obj}{xs:List V}(e:H a=some (.frz o (.lst xs))):TyOf K H (.ref a) (.type "list")
 |tup {a:Addr}{xs:List V}(e:H a=some (.tup xs)):TyOf K H (.ref a) (.type "tuple")
 |dK {a:Addr}{aI:List (cA×V)}{ob:Obj}(e:H a=some (.dK aI ob)):TyOf K H (.ref a) (.type "dict")
 |dT {a:Addr}{aI:List (List cA×V)}(e:H a=some (.dT aI)):TyOf K H (.ref a) (.type "dict")
 |ins {a C dx:Addr}{fs:List (Str×V)}(e:H a=some (.ins C dx fs)) (cl:Cls K C) (ha:PySem.W.findIn K (.ref C) "__class__" = some (some (.builtin "object.__class__")))
   (hn:PySem.W.specialIn K (.builtin "object.__class__") "__get__" = some (some (.builtin "getset_descriptor.__get__"))) (Wh:PySem.W.takesIn K (.builtin "object.__class__")=some true)
   (hm:PySem.W.mroIn K C (.type "object")=some true):TyOf K H (.ref a) (.ref C)
theorem ig (I:Inv X ae σ H s)(rx:ba x u)(ty:TyOf X.K H x t)(e:PySem.W.kitOne X.K t c=some b)(h:∀tk,Q (.bool b) { s with toks:=tk }):
  wpAny (model X.prog X.w) A (call (.builtin "isinstance") [u,c]) Q E s:=by
 cases ty with
 |non=>cases (show u=Value.none from rx);exact PySem.W.kia_one PySem.W.kitx_none I.kIn True.intro e (λz=>nomatch z) h
 |bl y=>cases (show u=Value.bool y from rx);exact PySem.W.kia_one PySem.W.kitx_bool I.kIn True.intro e (λz=>nomatch z) h
 |int i=>obtain⟨t,q⟩:=(show ∃t,u=Value.int i t from rx);cases q;exact PySem.W.kia_one PySem.W.kitx_int I.kIn True.intro e (λz=>nomatch z) h
 |str y=>obtain⟨t,q⟩:=(show ∃t,u=Value.str y t from rx);cases q;exact PySem.W.kia_one PySem.W.kitx_str I.kIn True.intro e (λz=>nomatch z) h
 |flt y=>obtain⟨t,q⟩:=(show ∃t,u=Value.float y t from rx);cases q;exact PySem.W.kia_one PySem.W.kitx_float I.kIn True.intro e (λz=>nomatch z) h
 |@lst a xs ea=>
  cases (show u=Value.ref a from rx)
  obtain⟨_,_,n,_,h1⟩:=(show bR X.prog X.w H s.heap a (.lst xs)from I.hok a _ ea);exact PySem.W.kia_one PySem.W.kitx_list I.kIn ⟨_,h1,rfl⟩ e (λz=>nomatch z) h
 |@frz a ob xs ea=>
  cases (show u=Value.ref a from rx)
  obtain⟨_,_,_,n,_,h1⟩:=(show bR X.prog X.w H s.heap a (.frz ob (.lst xs))from I.hok a _ ea);exact PySem.W.kia_one PySem.W.kitx_list I.kIn ⟨_,h1,rfl⟩ e (λz=>nomatch z) h
 |@tup a xs ea=>
  cases (show u=Value.ref a from rx)
  obtain⟨_,_,_,p⟩:=(show bR X.prog X.w H s.heap a (.tup xs)from I.hok a _ ea);obtain⟨o,h1,h2,_⟩:=p;exact PySem.W.kia_one PySem.W.kitx_tuple I.kIn ⟨o,h1,h2⟩ e (λz=>nomatch z) h
 |@dK a aI ob ea=>
  cases (show u=Value.ref a from rx)
  obtain⟨_,_,_,vs,_,p⟩:=(show bR X.prog X.w H s.heap a (.dK aI ob)from I.hok a _ ea);obtain⟨o,es,ep,h1,h2,_⟩:=p;exact PySem.W.kia_one PySem.W.kitx_dict I.kIn ⟨o,h1,h2.1⟩ e (λz=>nomatch z) h
 |@dT a aI ea=>
  cases (show u=Value.ref a from rx)
  obtain⟨_,_,xs,_,o,es,ep,h1,h2,_⟩:=(show bR X.prog X.w H s.heap a (.dT aI)from I.hok a _ ea);exact PySem.W.kia_one PySem.W.kitx_dict I.kIn ⟨o,h1,h2.1⟩ e (λz=>nomatch z) h
 |@ins a C dx fs ea cl ha hn Wh hm=>
  cases (show u=Value.ref a from rx)
  obtain⟨mA,O,_⟩:=BE I.hok ea;obtain⟨od,J,_⟩:=O.look;exact PySem.W.kia_one (PySem.W.kitx_own (cl.get _) cl.hd ha hn Wh hm) I.kIn J e (λz=>nomatch z) h
end
structure fg (k:Nat)(A:Around):Prop where
 hd:A.handled=none
 dp:A.depth+3*k+5<recursionLimit
 un:A.units+16*k+200<cLine
theorem fg.mono (r:fg k A)(h:j<=k):fg j A:=⟨r.hd,by have:=r.dp;omega,by have:=r.un;omega⟩
theorem fg.deeper (r:fg (k+1) A)(env:Env):fg k (A.deeper env) :=
 ⟨r.hd,by have:=r.dp;show A.depth+1+3*k+5<_;omega,by have:=r.un;show A.units+3+16*k+200<_;omega⟩
theorem fg.in1 (r:fg (k+1) A):fg k A.in1 :=
 ⟨r.hd,by have:=r.dp;show A.depth+3*k+5<_;omega,by have:=r.un;show A.units+1+16*k+200<_;omega⟩
theorem fg.depth (r:fg k A):A.depth<recursionLimit:=by have:=r.dp;omega
def Qm:TA:=λ_ H Q=>Q [] H
def Lk (ta:TE)(tr:TA):TA:=λσ H Q=>ta σ H λx H1=>tr σ H1 λxs H2=>Q (x::xs) H2
section
variable {X:Cx}{e:Expr}{es:List Expr}{te:TE}{t:TA}{pos:Pos}
theorem kx:PA X [] Qm:=λ_ _ _ _ H Q I h=>Calls.spliced_nil ⟨[],H,I,.nil,h⟩
theorem iT (ha:PE X e te)(hr:PA X es t)(hs:starEach (e::es) X.env=(false,eval e X.env)::starEach es X.env:=by rfl):PA X (e::es) (Lk te t):=by
 intro pos ae s σ H Q I h;rw[hs];show wpAny _ _ (spliced ((false,eval e X.env)::backTo pos (starEach es X.env))) _ _ s;refine Calls.spliced_cons (cY (ha ae s σ H _ I h) λu s1 ⟨x,H1,I1,r1,q1⟩=>?_);exact cY (hr pos ae s1 σ H1 _ I1 q1) λus s2 ⟨xs,H2,I2,r2,q2⟩=>⟨x::xs,H2,I2,.cons r1 r2,q2⟩
def Qn (t:TA):TE:=λσ H Q=>t σ H λxs H1=>xs.length<=sizeLine/\∀p,H1 p=none->Q (.ref p) (upd H1 p (.tup xs))
def Tq (t:TA):TE:=λσ H Q=>t σ H λxs H1=>xs.length<=sizeLine/\∀p,H1 p=none->Q (.ref p) (upd H1 p (.lst xs))
theorem Aw {x1}(h:PA X es t):PE X (.Tuple es x1 pos) (Qn t):=by
 intro ae s σ H Q I hq;refine wpAny_Tuple_spliced (cY (h pos ae s σ H _ I hq) λus s1 ⟨xs,H1,I1,r,z,q⟩=>⟨by rw[←r.length];exact z,?_⟩);have hf:H1 s1.heap.objs.size=none:=I1.hok.fresh (vT _);refine⟨.ref s1.heap.objs.size,upd H1 s1.heap.objs.size (.tup xs),I1.laid (t':=s1.toks) (λb u e=>vZ _ e) (vT _) ?_,rfl,q _ hf⟩;exact⟨z,us,r,⟨_,vY _ rfl,rfl,_,rfl⟩⟩
theorem MV (h:PA X es t):PE X (.List es pos) (Tq t):=by
 intro ae s σ H Q I hq;refine wpAny_List_spliced (cY (h pos ae s σ H _ I hq) λus s1 ⟨xs,H1,I1,r,z,q⟩=>⟨by rw[←r.length];exact z,?_⟩);have hf:H1 s1.heap.objs.size=none:=I1.hok.fresh (vT _);refine⟨.ref s1.heap.objs.size,upd H1 s1.heap.objs.size (.lst xs),I1.laid (t':=s1.toks) (λb u e=>vZ _ e) (vT _) ?_,rfl,q _ hf⟩;exact⟨z,us,0,r,vY _ rfl⟩
end
abbrev Sp:=List V->Hp->VK->XK->Prop
abbrev Ll:=List Env->Hp->Shared->XK->Value->Shared->Prop
structure Env0 (P:Program)(w:World)(K:PySem.W.Frag)(mg:Str->Option Value)(base:Heap)(A:Around)(outer:List Env)(s:Shared)(H:Hp):Prop where
 frames:A.frames=some outer
 mod:Mod K mg base
 bs:∀b o,base.get? b=some o->s.heap.get? b=some o/\H b=none
 bsz:base.objs.size<=s.heap.objs.size
 funs:s.heap.FunFrames base outer
 frf:∀b∈Ds outer,H b=none
 hok:lz P w H s.heap
 bare:AllBare s.gens
def CE (outer:List Env)(P:Program)(w:World)(H:Hp)(s:Shared)(Q:VK)(u:Value)(s':Shared):Prop :=
 ∃v H',s'.os=s.os/\AllBare s'.gens/\Un (Ds outer) [] H H' s.heap s'.heap/\lz P w H' s'.heap/\ba v u/\Q v H'
def CR (CX:Ll)(outer:List Env)(P:Program)(w:World)(H:Hp)(s:Shared)(Q:VK)(E:XK)(r:Result)(s':Shared):Prop :=
 match r with
 |.ok (.ret u)=>CE outer P w H s Q u s'
 |.ok _=>False
 |.error e=>CX outer H s E e s'
structure tH (P:Program)(w:World)(K:PySem.W.Frag)(mg:Str->Option Value)(base:Heap)(CX:Ll)(k:Nat)(f:Addr)(fd:FuncData)(ps:List Str)(sp:Sp):Prop where
 len:∀vs H Q E,sp vs H Q E->vs.length=ps.length
 run:∀(A:Around)(outer:List Env)(s:Shared)(H:Hp)(args:Args)(us:List Value)(vs:List V)(Q:VK)(E:XK),fg k A->Env0 P w K mg base A outer s H->BindsTo s fd args (ps.zip us)->aX vs us->sp vs H Q E ->
  codeAny (model P w) A (.call (.ref f) args) (CR CX outer P w H s Q E) s
section
variable {X:Cx}{ae:List (Addr×Obj)}{σ:St}{H:Hp}{s s':Shared}
theorem Inv.env0 (I:Inv X ae σ H s):Env0 X.prog X.w X.K X.mg X.base X.A X.stack s H :=
 ⟨I.ok.frames,I.ok.mod,I.bs,vR I.ok.bsz I.sz,I.stack,I.stkFree,I.hok,I.bare⟩
theorem Inv.after (I:Inv X ae σ H s)(h:CE X.stack X.prog X.w H s Q u s'):EP X ae σ Q u s':=by
 obtain⟨v,H',os,bare,un,hok,r,q⟩:=h;obtain⟨hh,g,d,t,Us⟩:=s';obtain rfl:Us=s.os:=os;exact⟨v,H',I.call (h':=hh) (g':=g) (d':=d) (t':=t) (ch:=[]) un hok bare (λb z=>absurd z (by simp)),r,q⟩
end
def Qo (sp:Sp)(EA:List V)(E:XK)(t:TA):TE:=λσ H Q=>t σ H λvs H1=>sp (vs++EA) H1 Q E
def V4 (C:Addr)(m:Str)(sp:Sp)(EA:List V)(E:XK)(ta:TE)(t:TA):TE:=λσ H Q=>ta σ H λx H1=>∃a dx fs,x=.ref a/\H1 a=some (.ins C dx fs)/\fs.lookup m=none /\
 t σ H1 λvs H2=>sp (x::(vs++EA)) H2 Q E
def V5 (C:Addr)(sp:Sp)(EA:List V)(E:XK)(t:TA):TE:=λσ H Q=>t σ H λvs H1=>∀x dx,H1 x=none->H1 dx=none->dx≠x ->
 sp (.ref x::(vs++EA)) (upd (upd H1 dx (.own x)) x (.ins C dx [])) (λv H2=>v=.non/\Q (.ref x) H2) E
def tL (K:PySem.W.Frag)(fd:FuncData)(ps:List Str)(ds:List Value):Prop :=
 ∀(s:Shared)(us:List Value),K.In s.heap->(us++ds).length=ps.length->BindsTo s fd ⟨us,[]⟩ (ps.zip (us++ds))
theorem tL.all {K:PySem.W.Frag}{fd:FuncData}{ps:List Str}(h:∀us:List Value,us.length=ps.length->bindArgs fd ⟨us,[]⟩=pure (ps.zip us)):tL K fd ps []:=λs us _ hl=>by
 rw[uQ]at hl ⊢;exact .of_eq (h us hl)
def Ax (CX:Ll)(X:Cx)(E:XK):Prop:=∀(ae:List (Addr×Obj))(σ:St)(H:Hp)(s:Shared)(e:Value)(s':Shared),Inv X ae σ H s->CX X.stack H s E e s'->X.xe e s'
section
variable {X:Cx}{CX:Ll}{k:Nat}{f C:Addr}{fd:FuncData}{ps:List Str}{sp:Sp}{EA:List V}{ds:List Value}{E:XK}{x m:Str}{p pos dM:Pos}{e o:Expr}{es:List Expr}{ta:TE}{t:TA}
theorem MW {ae:List (Addr×Obj)}{σ:St}{H:Hp}{s:Shared}{Q:VK}{us:List Value}{vs:List V}(F:tH X.prog X.w X.K X.mg X.base CX k f fd ps sp)(hr:fg k X.A)(hb:tL X.K fd ps ds)(hd:aX EA ds)(hx:Ax CX X E)
  (I:Inv X ae σ H s) (r:aX vs us) (h:sp (vs++EA) H Q E):wpAny (model X.prog X.w) X.A (call (.ref f) us) (EP X ae σ Q) X.xe s:=by
 have r2:aX (vs++EA) (us++ds):=r.append hd;have hl:(us++ds).length=ps.length:=by rw[←r2.length];exact F.len _ _ _ _ h
 refine wpAny_call (codeAny_mono (F.run X.A X.stack s H ⟨us,[]⟩ (us++ds) (vs++EA) Q E hr I.env0 (hb s us I.kIn hl) r2 h) λr s' hq=>?_);cases r with
 |error e=>exact hx ae σ H s e s' I hq
 |ok fl=>
  cases fl with
  |ret u=>exact I.after hq
  |next=>exact False.elim hq
  |brk=>exact False.elim hq
  |cont=>exact False.elim hq
theorem IQ (F:tH X.prog X.w X.K X.mg X.base CX k f fd ps sp)(hr:fg k X.A)(hg:Gl X x)(hm:X.mg x=some (.ref f))(hk:PySem.W.keepIn X.K (.ref f)=true)(hb:tL X.K fd ps ds)(hd:aX EA ds)(hx:Ax CX X E)
  (ha:PA X (e::es) t) (sM:(x == ("__debug__" : Str))=false:=by decide) (he:starEach (e::es) X.env=(false,eval e X.env)::starEach es X.env:=by rfl) (lL:(backTo pos (starEach es X.env)).any (·.1)=false:=by rfl):
  PE X (.Call (.Name x p) (e::es) [] pos) (Qo sp EA E t):=by
 intro ae s σ H Q I h;refine wpAny_Call_Name_kw (wb I hg hm ?_ sM);refine PySem.W.callWith_K (h₀:=X.base) I.ok.mod.kin hk (cY (ha pos ae s σ H _ I h) λus s1 ⟨vs,H1,I1,r,q⟩=>⟨I1.kIn,?_⟩) he lL;exact MW F hr hb hd hx I1 r q
end
structure FnScope (N P:List Str)(sc:Scope):Prop where
 kind:sc.kind=.function
 co:sc.isCoroutine=false
 gen:sc.isGenerator=false
 nd:N.Nodup
 pre:N.take P.length=P
 par:∀x∈P,sc.names.lookup x=some .local∨sc.names.lookup x=some .cell
 nofree:∀y∈sc.names,y.2≠.free
theorem tM {kindOf:Str->Option NameKind}{x:Str}:∀ {binds:List (Str×Value)}{m:Str->Option Value},(∀v,(x,v)∉binds)->bindL kindOf binds m x=m x
 |[],_,_=>rfl
 | (n,v)::r,m,h=>by
  unfold bindL;rw[tM λw hw=>h w (mZ _ hw)];split
  ·have:x≠n:=by rintro rfl;exact h v mX
   simp[this]
  ·rfl
theorem tN {kindOf:Str->Option NameKind}{x:Str}:∀ {binds:List (Str×Value)}{m:Str->Option Value},(∀v,(x,v)∉binds)->bindC kindOf binds m x=m x
 |[],_,_=>rfl
 | (n,v)::r,m,h=>by
  unfold bindC;rw[tN λw hw=>h w (mZ _ hw)];split
  ·rfl
  ·have:x≠n:=by rintro rfl;exact h v mX
   simp[this]
theorem tO {kindOf:Str->Option NameKind}{x:Str}{v:Value}:∀ {P:List Str}{vs:List Value}{i:Nat}{m:Str->Option Value},P.Nodup->P[i]? = some x->vs[i]? = some v->kindOf x=some .local ->
  bindL kindOf (P.zip vs) m x=some v
 |[],_,_,_,_,h,_,_=>by simp at h
 |_::_,[],_,_,_,_,h,_=>by simp at h
 |p::P,w::vs,0,m,nd,h1,h2,hk=>by
  simp at h1 h2;subst h1;subst h2;show bindL kindOf ((p,w)::P.zip vs) m p=_;unfold bindL;rw[tM λv hv=>(List.nodup_cons.mp nd).1 (List.of_mem_zip hv).1,if_pos hk];simp
 |p::P,w::vs,i+1,m,nd,h1,h2,hk=>by
  show bindL kindOf ((p,w)::P.zip vs) m x=_;unfold bindL;exact tO (i:=i) (List.nodup_cons.mp nd).2 (by simpa using h1) (by simpa using h2) hk
theorem tP {kindOf:Str->Option NameKind}{x:Str}{v:Value}:∀ {P:List Str}{vs:List Value}{i:Nat}{m:Str->Option Value},P.Nodup->P[i]? = some x->vs[i]? = some v->kindOf x≠some .local ->
  bindC kindOf (P.zip vs) m x=some v
 |[],_,_,_,_,h,_,_=>by simp at h
 |_::_,[],_,_,_,_,h,_=>by simp at h
 |p::P,w::vs,0,m,nd,h1,h2,hk=>by
  simp at h1 h2;subst h1;subst h2;show bindC kindOf ((p,w)::P.zip vs) m p=_;unfold bindC;rw[tN λv hv=>(List.nodup_cons.mp nd).1 (List.of_mem_zip hv).1,if_neg hk];simp
 |p::P,w::vs,i+1,m,nd,h1,h2,hk=>by
  show bindC kindOf ((p,w)::P.zip vs) m x=_;unfold bindC;exact tP (i:=i) (List.nodup_cons.mp nd).2 (by simpa using h1) (by simpa using h2) hk
noncomputable def jY (N:List Str)(vs:List V):St:=vs.map some++List.replicate (N.length - vs.length) none
noncomputable def p7 (CX:Ll)(P:Program)(w:World)(K:PySem.W.Frag)(mg:Str->Option Value)(base:Heap)(N:List Str)(qual:Str)(scope:Scope)(f:Addr)(cd:Value)(A:Around)(outer:List Env)(s:Shared)(H:Hp)(E:XK):Cx where
 prog:=P
 w:=w
 K:=K
 mg:=mg
 base:=base
 A:=A.deeper (envOfC qual scope s.heap.objs.size f cd)
 N:=N
 s₀:=s
 H₀:=H
 env:=envOfC qual scope s.heap.objs.size f cd
 outer:=outer
 stack:=envOfC qual scope s.heap.objs.size f cd::outer
 ex:=[]
 calm:=true
 fn:=λ_=>true
 pn:=[]
 xe:=λe s'=>wpAny (model P w) (A.deeper (envOfC qual scope s.heap.objs.size f cd)) (leaving (envOfC qual scope s.heap.objs.size f cd) e) (λ_ tI=>CX outer H s E e tI) (λe' tI=>CX outer H s E e' tI) s'
theorem xR {sc:Scope}{n:Nat}{x:Str}(h:sc.names.lookup x=some .cell):∃c,(cellsFrom n sc.names []).lookup x=some c:=by
 have q:=PySem.W.cellsFrom_some sc.names n [] (.inl h);exact uU q
theorem D1 {CX:Ll}{P:Program}{w:World}{K:PySem.W.Frag}{mg:Str->Option Value}{base:Heap}{N ps:List Str}{qual:Str}{scope:Scope}{f:Addr}{cd:Value}{A:Around}{outer:List Env}{s s1:Shared}{H:Hp}{E:XK}{us:List Value}{vs:List V}
  (S:FnScope N ps scope) (hd:A.handled=none) (e0:Env0 P w K mg base A outer s H) (hl:vs.length=ps.length) (r:aX vs us)
  (x:InCallC s s.heap.objs.size (bindL (envOfC qual scope s.heap.objs.size f cd).kindOf (ps.zip us) λ_=>none) (cellsFrom (s.heap.objs.size+1) scope.names []) (bindC (envOfC qual scope s.heap.objs.size f cd).kindOf (ps.zip us) λ_=>none) s1):
  Inv (p7 CX P w K mg base N qual scope f cd A outer s H E) [] (jY N vs) H s1:=by
 have lL:ps.length<=N.length:=by have:=congrArg List.length S.pre;rw[List.length_take]at this;omega
 obtain⟨h1,tk,rfl,hk⟩:=x.done;have KJ:∀b:Addr,b∉(p7 CX P w K mg base N qual scope f cd A outer s H E).ex:=λb z=>absurd (show b∈([]:List Addr)from z) (by simp);refine⟨⟨e0.mod,S.kind,rfl,rfl,vT _,λy z c h1 h2=>?_,λy hy=>?_,λy c _ h=>?_,λ_=>hd,Around.frames_deeper e0.frames,.inr ⟨rfl,rfl⟩,λb z=>absurd z (KJ b),e0.bs,e0.bsz,λb _ _=>KJ b,λb z=>absurd z (KJ b),e0.funs,e0.frf⟩,
  rfl,e0.bare,Un.kept hk,⟨_,x.toInCall.ns,λi y v h1 h2 h3=>?_⟩,λy c h=>⟨_,x.cell y c h⟩,e0.hok.fresh (vT _),λy c h=>?_,λp hp=>absurd (show p∈([]:List (Addr×Obj))from hp) (by simp),e0.hok.kept hk,?_⟩
 ·exact name_of_addr x.apart (PySem.mem_of_lookup h1) (PySem.mem_of_lookup h2)
 ·have hy:scope.names.lookup y=some .cell∨scope.names.lookup y=some .free:=hy;rcases hy with hy|hy
  ·exact xR hy
  ·exact absurd rfl (S.nofree _ (PySem.mem_of_lookup hy))
 ·exact Nat.le_of_lt (x.above y c (PySem.mem_of_lookup h))
 ·have hi:i<vs.length:=by
   unfold jY at h2;by_cases hi:i<vs.length
   ·exact hi
   ·rw[List.getElem?_append_right (by simpa using hi)]at h2;rw[List.getElem?_replicate]at h2;split at h2<;>cases h2
  have ha:vs[i]? = some v:=by
   unfold jY at h2;rw[List.getElem?_append_left (by simpa using hi),vA]at h2;cases e:vs[i]? with
   |none=>rw[e]at h2;cases h2
   |some a=>rw[e]at h2;cases h2;rfl
  obtain⟨u,hu,rv⟩:=r.get ha;have hp:ps[i]? = some y:=by
   rw[←S.pre,List.getElem?_take_of_lt (by omega)];exact h1
  have Wi:ps.Nodup:=by rw[←S.pre];exact S.nd.sublist (List.take_sublist _ _)
  refine⟨u,rv,?_⟩;rcases S.par y (vL hp)with k|k
  ·exact .inl ⟨k,tO Wi hp hu k⟩
  ·obtain⟨c,e⟩:=xR (n:=s.heap.objs.size+1) k;refine .inr ⟨.inl k,c,e,?_⟩;have q:=x.cell y c e;rw[tP Wi hp hu (by show scope.names.lookup y≠_;rw[k];decide)]at q;exact q
 ·exact e0.hok.fresh (Nat.le_of_lt (x.above y c (PySem.mem_of_lookup h)))
 ·unfold jY;show _=N.length;rw[uZ,vI,List.length_replicate];omega
theorem Lm {CX:Ll}{P:Program}{w:World}{K:PySem.W.Frag}{mg:Str->Option Value}{base:Heap}{k:Nat}{f:Addr}{name qual:Str}{params:Arguments}{body:List Stmt}{scope:Scope}{dV kV doc pm eU ct oc:Value}{an od:Option Addr}
  {pz:Array (Option Value)}{N ps:List Str}{sp:Sp}(lk:K.lookup f=some ⟨oc,od,.func (PySem.W.fnOf name qual params body scope dV kV doc pm an eU ct),pz⟩) (jG:PySem.W.codeIn K eU qual=true) (S:FnScope N ps scope)
  (len:∀vs H Q E,sp vs H Q E->vs.length=ps.length)
  (HN:∀(A:Around)(outer:List Env)(s:Shared)(H:Hp)(vs:List V)(Q:VK)(E:XK),fg k (A.deeper (envOfC qual scope s.heap.objs.size f eU))->sp vs H Q E ->
   ∃t,wa (p7 CX P w K mg base N qual scope f eU A outer s H E) body t/\t { nx:=λ_ H'=>Q .non H',rt:=Q } (jY N vs) H):
  tH P w K mg base CX (k+1) f (PySem.W.fnOf name qual params body scope dV kV doc pm an eU ct) ps sp:=by
 refine⟨len,λA outer s H args us vs Q E hr e0 hb r Pn=>?_⟩;have hl:=len _ _ _ _ Pn;have KX:K.In s.heap:=e0.mod.kin.keeps λb o e=>(e0.bs b o e).1;have Yi:s.heap.NoLimit:=e0.mod.nolimit.keeps λb o e=>(e0.bs b o e).1;have Ri:∀y∈ps.zip us,scope.names.lookup y.1=some .local∨(scope.names.lookup y.1=some .cell/\((cellsFrom (s.heap.objs.size+1) scope.names []).lookup y.1).isSome=true):=λ⟨n,v⟩ hy=>by
  rcases S.par n (List.of_mem_zip hy).1 with q|q
  ·exact .inl q
  ·exact .inr ⟨q,PySem.W.cellsFrom_some _ _ _ (.inl q)⟩
 refine codeAny_call_function hr.depth (KX _ _ lk) rfl S.co S.gen rfl (PySem.W.codeRec_of KX jG) (hb _ _ _ _ ?_);refine wpAny_newFunctionEnv_cells S.kind Ri λenv he s1 x=>?_;subst he;refine⟨Yi.keeps x.toInCall.keep,codeAny_func ?_⟩;obtain⟨t,ht,hq⟩:=HN A outer s H vs Q E (hr.deeper _) Pn;have I:Inv (p7 CX P w K mg base N qual scope f eU A outer s H E) [] (jY N vs) H s1:=D1 S hr.hd e0 hl r x;refine wpAny_mono (ht [] s1 (jY N vs) H _ I hq) (λfl s' hs=>?_) λe s' hs=>hs;have mo:∀ {σ':St}{H':Hp}{v:V}{u:Value},Inv (p7 CX P w K mg base N qual scope f eU A outer s H E) [] σ' H' s'->ba v u->Q v H'->CE outer P w H s Q u s' :=
  λ{σ' H' v u} J rv q=>⟨v,H',J.os,J.bare,J.base,J.hok,rv,q⟩
 cases fl with
 |ret u=>
  obtain⟨v,σ',H',J,rv,q⟩:=hs;exact mo J rv q
 |next=>
  obtain⟨σ',H',J,q⟩:=hs;exact mo (v:=V.non) (u:=Value.none) J rfl q
 |brk=>
  obtain⟨_,_,_,q⟩:=hs;exact False.elim q
 |cont=>
  obtain⟨_,_,_,q⟩:=hs;exact False.elim q
section
variable {X:Cx}{x:Str}{p pos:Pos}{e:Expr}{es:List Expr}{t:TA}{id T:String}{r:List V->Hp->VK->Prop}
def V6 (r:List V->Hp->VK->Prop)(t:TA):TE:=λσ H Q=>t σ H λvs H1=>r vs H1 Q
theorem xS (hc:bT X (.builtin id) r)(hg:Gl X x)(hm:X.mg x=none)(hv:bootBuiltins x=some (.builtin id))(ha:PA X (e::es) t)(hn:x ≠ "__name__":=by decide)(sM:(x == ("__debug__" : Str))=false:=by decide)
  (he:starEach (e::es) X.env=(false,eval e X.env)::starEach es X.env:=by rfl) (lL:(backTo pos (starEach es X.env)).any (·.1)=false:=by rfl):PE X (.Call (.Name x p) (e::es) [] pos) (V6 r t):=by
 intro ae s σ H Q I h;refine wpAny_Call_Name_kw (lP I hg hm hv ?_ hn sM);exact PyProof.Rows.callWith_builtin1 (cY (ha pos ae s σ H _ I h) λus s1 ⟨vs,H1,I1,r1,q1⟩=>hc ae s1 σ H1 vs us Q I1 r1 q1) he lL
theorem tQ (hc:bT X (.type T) r)(hg:Gl X x)(hm:X.mg x=none)(hv:bootBuiltins x=some (.type T))(ha:PA X (e::es) t)(hn:x ≠ "__name__":=by decide)(sM:(x == ("__debug__" : Str))=false:=by decide)
  (he:starEach (e::es) X.env=(false,eval e X.env)::starEach es X.env:=by rfl) (lL:(backTo pos (starEach es X.env)).any (·.1)=false:=by rfl):PE X (.Call (.Name x p) (e::es) [] pos) (V6 r t):=by
 intro ae s σ H Q I h;refine wpAny_Call_Name_kw (lP I hg hm hv ?_ hn sM);exact PyProof.Rows.callWith_type1 (cY (ha pos ae s σ H _ I h) λus s1 ⟨vs,H1,I1,r1,q1⟩=>hc ae s1 σ H1 vs us Q I1 r1 q1) he lL
end
end L2
namespace HT
open PySem PyProof.Rows
section
open PySem.SeqAt
open PySem.AutoSeq1 (wpAny_loadPart')
open PySem.MeetsSeq PySem.MeetsSeq2 PySem.MeetsSeq3
end
section
variable {prog:Program}{w:World}{A:Around}{E:Value->Shared->Prop}{s:Shared}
theorem IS (ht:IsTup s.heap t vs.toArray)(hb:IsTup s.heap b ws.toArray)(hv:vs≠[])
  (h1:ws=[]->Q (.ref t) s) (h2:ws≠[]->Q (.ref s.heap.objs.size) { s with heap:=s.heap.push { cls:=.type "tuple",data:=.seq (vs++ws).toArray } })
  (hsz:vs.length+ws.length<=sizeLine):wpAny (model prog w) A (binaryOp .Add (.ref t) (.ref b)) Q E s:=by
 obtain⟨⟨cls,dd,data,sl⟩,ho,hc,n,hd⟩:=id ht;obtain⟨⟨Ut,Ov,data2,SF⟩,KN,vw,n2,Rj⟩:=id hb;simp only at hc hd vw Rj;subst hc hd vw Rj;have e:vs.toArray++ws.toArray=(vs++ws).toArray:=by simp
 by_cases hw:ws=[]
 ·exact concat_meets ⟨_,ho,rfl⟩ ⟨_,KN,rfl⟩ noFill_tuple_add seq_tuple_add PySem.F.slot_tuple_add PySem.F.entry_tuple_add (PySem.F.args_tuple_add_2 _ _)
   (tuple_addW1 t b vs.toArray ws.toArray n n2 dd Ov sl SF (by simpa using hv) (by simp[hw])) ⟨ho,KN,h1 hw⟩
 ·refine concat_meets ⟨_,ho,rfl⟩ ⟨_,KN,rfl⟩ noFill_tuple_add seq_tuple_add PySem.F.slot_tuple_add PySem.F.entry_tuple_add (PySem.F.args_tuple_add_2 _ _)
   (tuple_addW2 t b vs.toArray ws.toArray n n2 dd Ov sl SF (by simpa using hv) (by simpa using hw) (by rw[vH,vH];exact hsz)) ⟨ho,KN,?_⟩
  rw[e];exact h2 hw
noncomputable def eI (n d:Nat):Option Int->Nat
 |none=>d
 |some v=>if v<0 then (v+(n:Int)).toNat else min v.toNat n
theorem MX (n d:Nat)(hd:d<=n)(o:Option Int):eI n d o<=n:=by
 cases o with
 |none=>exact hd
 |some v=>
  show(if v<0 then (v+(n:Int)).toNat else min v.toNat n)<=n;by_cases hv:v<0
  ·rw[if_pos hv];omega
  ·rw[if_neg hv];exact Nat.min_le_right _ _
theorem BF (v:Int)(n d:Nat):(if v<0 then max (v+(n:Int)) 0 else min v (n:Int))=((eI n d (some v):Nat):Int):=by
 show(if v<0 then max (v+(n:Int)) 0 else min v (n:Int))=(((if v<0 then (v+(n:Int)).toNat else min v.toNat n):Nat):Int);by_cases hv:v<0
 ·simp only[if_pos hv];omega
 ·simp only[if_neg hv];omega
theorem Ay (lo hi:Option Int)(n:Nat):Builtin.Slice.sliceAdjust lo hi 1 (n:Int)=(((eI n 0 lo:Nat):Int),((eI n n hi:Nat):Int)):=by
 have h1:¬((1:Int)<0):=by omega
 unfold Builtin.Slice.sliceAdjust;simp only[h1,if_false];refine Prod.ext ?_ ?_
 ·cases lo with
  |none=>rfl
  |some v=>exact BF v n 0
 ·cases hi with
  |none=>rfl
  |some v=>exact BF v n n
theorem Az (i j:Nat):Builtin.Slice.slicePlaces (i:Int) (j:Int) 1=j - i:=by
 unfold Builtin.Slice.slicePlaces;have h1:(1:Int) > 0:=by omega
 simp only[h1,if_true,Int.ediv_one];split<;>omega
theorem pZ (p:IsPart v o)(h:Q o s):wpAny (model prog w) A (Builtin.Slice.slicePartIndex v) Q E s:=by
 cases p with
 |none=>exact slicePart_none h
 |int i t=>exact slicePart_int h
theorem jp {sl:Addr}{vl vu:Value}{lo hi:Option Int}{n:Nat}{Q:Int×Int×Nat->Shared->Prop}(hs:s.heap.IsSliceOf sl vl vu .none)(pl:IsPart vl lo)(pu:IsPart vu hi)
  (h:Q (((eI n 0 lo:Nat):Int),1,eI n n hi - eI n 0 lo) s):wpAny (model prog w) A (Builtin.Slice.sliceApplied (.ref sl) (pure (n:Int))) Q E s:=by
 obtain⟨os,KO,xJ,Ow⟩:=id hs;unfold Builtin.Slice.sliceApplied Builtin.Slice.sliceFields;refine wX (wX (wpAny_field KO Ow (x:=vl) rfl (wX (wpAny_field KO Ow (x:=vu) rfl (wX (wpAny_field KO Ow (x:=.none) rfl (wY ?_)))))));refine wX (slicePart_none ?_);show wpAny _ _ (if((1:Int) == 0)=true then _ else _) _ _ s;rw[if_neg (by decide)];refine wX (pZ pl (wX (pZ pu (wX (wY ?_)))));show wpAny _ _ (match Builtin.Slice.sliceAdjust lo hi 1 (n:Int) with|(lo,hi)=>pure (lo,(1:Int),Builtin.Slice.slicePlaces lo hi 1)) _ _ s;rw[Ay lo hi n];show wpAny _ _ (pure (((eI n 0 lo:Nat):Int),(1:Int),Builtin.Slice.slicePlaces ((eI n 0 lo:Nat):Int) ((eI n n hi:Nat):Int) 1)) _ _ s;rw[Az];exact wY h
theorem Fi (xs:Array Value)(i k:Nat):((List.range k).filterMap λ(m:Nat)=>xs[((i:Int)+(m:Int)*1).toNat]?).toArray=((xs.toList.drop i).take k).toArray:=by
 have e:(λ(m:Nat)=>xs[((i:Int)+(m:Int)*1).toNat]?)=λm=>xs[i+m]?:=by
  funext m;have:((i:Int)+(m:Int)*1).toNat=i+m:=by omega
  rw[this]
 rw[e];have:=pick_run xs i k;rw[List.filterMap_map]at this;have e2:((λx=>xs[x]?) ∘ λx=>i+x)=λm=>xs[i+m]?:=rfl;rw[e2]at this;rw[this]
theorem mr {t sl:Addr}{items:Array Value}{vl vu:Value}{lo hi:Option Int}{Q:Value->Shared->Prop}(ht:IsTup s.heap t items)(hs:s.heap.IsSliceOf sl vl vu .none)(pl:IsPart vl lo)(pu:IsPart vu hi)
  (hw:¬(eI items.size 0 lo=0/\eI items.size items.size hi=items.size))
  (h:Q (.ref s.heap.objs.size) { s with heap:=s.heap.push { cls:=.type "tuple",data:=.seq ((items.toList.drop (eI items.size 0 lo)).take (eI items.size items.size hi - eI items.size 0 lo)).toArray } })
  (hsz:items.size<=sizeLine):wpAny (model prog w) A (getItem (.ref t) (.ref sl)) Q E s:=by
 have Dh:sizeOk (.seq ((items.toList.drop (eI items.size 0 lo)).take (eI items.size items.size hi - eI items.size 0 lo)).toArray):=by
  show((items.toList.drop (eI items.size 0 lo)).take (eI items.size items.size hi - eI items.size 0 lo)).toArray.size<=sizeLine
  rw[vH,List.length_take,List.length_drop,vG]
  omega
 have hj:eI items.size items.size hi<=items.size:=MX _ _ (vT _) hi
 obtain⟨os,KO,xJ,Ow⟩:=id hs
 have Yj:s.TypeIs (.ref sl) "slice":=⟨os,KO,xJ⟩
 unfold getItem
 try with_reducible refine wpAny_holding ?_
 first|refine wX (wY ?_)|skip
 refine wX (wpAny_sequenceKey ht.typeIs (by decide) ?_)
 refine wX (wpAny_callSpecial?_slot (name:=Str.ofString "__getitem__") ht.typeIs PyProof.Rows.slot_tuple_getitem
  (wpAny_call_entry PyProof.Rows.slot_tuple_getitem ht.typeIs entry_tuple_getitem ?_ (args_tuple_getitem _ _)))
 show wpAny _ _ (Builtin.Tuple.tupleItemsOf (.ref t)>>=_) _ _ s
 refine wX (tupleItemsOf_ ht ?_)
 refine wX (wpAny_typeOf Yj ?_)
 rw[if_pos (by decide)]
 refine wX (jp hs pl pu ?_)
 have Po:¬((((eI items.size 0 lo:Nat):Int) == 0 && (1:Int) == 1 && (eI items.size items.size hi - eI items.size 0 lo) == items.size)=true):=by
  intro q
  rw[vC,vC]at q
  have q1:((eI items.size 0 lo:Nat):Int)=0:=eq_of_beq q.1.1
  have q2:eI items.size items.size hi - eI items.size 0 lo=items.size:=eq_of_beq q.2
  exact hw ⟨by omega,by omega⟩
 show wpAny _ _ (if(((eI items.size 0 lo:Nat):Int) == 0 && (1:Int) == 1 && (eI items.size items.size hi - eI items.size 0 lo) == items.size)=true then _ else _) _ _ s
 rw[if_neg Po,Fi]
 first
  |exact wX (m:=Builtin.Tuple.tupleExact _) (wpAny_newObj_type (wY ⟨_,rfl,wY h⟩) Dh)
  |exact wX (m:=Builtin.Tuple.tupleExact _) (wpAny_newObj_type (wX (wY (wY ⟨_,rfl,wY h⟩))) Dh)
  |exact wX (wX (m:=Builtin.Tuple.tupleExact _) (wpAny_newObj_type (wY (wY ⟨_,rfl,wY h⟩)) Dh))
  |exact wX (wX (m:=Builtin.Tuple.tupleExact _) (wpAny_newObj_type (wY ⟨_,rfl,wY h⟩) Dh))
end
end HT
namespace L2
open PySem PySem.Spec PyProof.Rows
abbrev TO:=St->Hp->(Option Int->Hp->Prop)->Prop
def PO (X:Cx)(e:Option Expr)(t:TO):Prop :=
 ∀(ae:List (Addr×Obj))(s:Shared)(σ:St)(H:Hp)(Q:Option Int->Hp->Prop),Inv X ae σ H s->t σ H Q ->
  wpAny (model X.prog X.w) X.A (evalPart e X.env) (λu s'=>∃o H',Inv X ae σ H' s'/\IsPart u o/\Q o H') X.xe s
def IT:TO:=λ_ H Q=>Q none H
def Qp (t:TE):TO:=λσ H Q=>t σ H λx H1=>∃i,x=.int i/\Q (some i) H1
section
variable {X:Cx}{e:Expr}{te:TE}{lo hi:Option Expr}{tl th:TO}{pos p2:Pos}
theorem IU:PO X none IT:=by
 intro ae s σ H Q I h;rw[evalPart_none];exact wY ⟨none,H,I,.none,h⟩
theorem IV (h:PE X e te):PO X (some e) (Qp te):=by
 intro ae s σ H Q I hw;rw[evalPart_some];refine cY (h ae s σ H _ I hw) λu s1 ⟨x,H1,I1,r1,q1⟩=>?_;obtain⟨i,rfl,q⟩:=q1;obtain⟨t,rfl⟩:=r1;exact⟨some i,H1,I1,.int i t,q⟩
def EK (X:Cx)(r:V->Option Int->Option Int->Hp->VK->Prop):Prop :=
 ∀(ae:List (Addr×Obj))(s:Shared)(σ:St)(H:Hp)(x:V)(v vl vu:Value)(lo hi:Option Int)(sl:Addr)(Q:VK),Inv X ae σ H s->ba x v->s.heap.IsSliceOf sl vl vu .none->IsPart vl lo->IsPart vu hi->r x lo hi H Q ->
  ∃T id,typeLookup (.type T) "__getitem__" = pure (some (.builtin id))/\s.TypeIs v T/\wpAny (model X.prog X.w) X.A (getItem v (.ref sl)) (EP X ae σ Q) X.xe s
theorem EK.or (h:EK X r)(h':EK X r'):EK X (λx lo hi H Q=>r x lo hi H Q∨r' x lo hi H Q):=by
 intro ae s σ H x v vl vu lo hi sl Q I rx hs pl pu q;rcases q with q|q
 ·exact h ae s σ H x v vl vu lo hi sl Q I rx hs pl pu q
 ·exact h' ae s σ H x v vl vu lo hi sl Q I rx hs pl pu q
def Xv (r:V->Option Int->Option Int->Hp->VK->Prop)(te:TE)(tl th:TO):TE:=λσ H Q=>te σ H λx H1=>tl σ H1 λl H2=>th σ H2 λu H3=>r x l u H3 Q
theorem Fj (hr:EK X r)(he:PE X e te)(hl:PO X lo tl)(hu:PO X hi th):PE X (.Subscript e (.Slice lo hi none p2) pos) (Xv r te tl th):=by
 intro ae s σ H Q I h;refine Subscript_ (cY (he ae s σ H _ I h) λv s1 ⟨x,H1,I1,r1,q1⟩=>?_);refine wpAny_Slice (cY (hl ae s1 σ H1 _ I1 q1) λvl s2 ⟨l,H2,I2,pl,q2⟩=>cY (hu ae s2 σ H2 _ I2 q2) λvu s3 ⟨u,H3,I3,pu,q3⟩=>?_);rw[evalPart_none];refine wY ?_;have I4:Inv X ae σ H3 { s3 with heap:=s3.heap.push { cls:=.type "slice",data:=.fields #[vl,vu,.none] } }:=I3.kept (t':=s3.toks) λb ob q=>vZ _ q;obtain⟨T,id,hT,ht,hg⟩:=hr ae { s3 with heap:=s3.heap.push { cls:=.type "slice",data:=.fields #[vl,vu,.none] } } σ H3 x v vl vu l u s3.heap.objs.size Q I4 r1 (Heap.IsSliceOf.new ..) pl pu q3;show wpAny (model X.prog X.w) X.A (subscriptTail e (.Slice lo hi none p2) v (.ref s3.heap.objs.size)) (EP X ae σ Q) X.xe { s3 with heap:=s3.heap.push { cls:=.type "slice",data:=.fields #[vl,vu,.none] } };exact tail_any (ops:=[.ref s3.heap.objs.size,v]) ht hT hg (by with_unfolding_all rfl)
def sX (xs:List V)(lo hi:Option Int):List V:=(xs.drop (HT.eI xs.length 0 lo)).take (HT.eI xs.length xs.length hi - HT.eI xs.length 0 lo)
theorem oD (xs:List V)(lo hi:Option Int):(sX xs lo hi).length<=xs.length:=by
 unfold sX;rw[List.length_take,List.length_drop];omega
def Tr (K:PySem.W.Frag):V->Option Int->Option Int->Hp->VK->Prop:=λx lo hi H Q=>∃a xs,x=.ref a/\jo K H a xs /\
 ¬(HT.eI xs.length 0 lo=0/\HT.eI xs.length xs.length hi=xs.length)/\∀p,H p=none->Q (.ref p) (upd H p (.tup (sX xs lo hi)))
theorem MY:EK X (Tr X.K):=by
 intro ae s σ H x v vl vu lo hi sl Q I rx hs pl pu h;obtain⟨a,xs,rfl,hx,hw,q⟩:=h;cases rx
 obtain⟨its,r,ht,hz⟩:=I.tuple hx;have bK:its.toArray.size=xs.length:=by rw[vH];exact r.length.symm
 refine⟨"tuple",_,PyProof.Rows.slot_tuple_getitem.lookup,ht.typeIs,?_⟩;refine HT.mr ht hs pl pu (by rw[bK];exact hw) ?_ (by rw[bK];exact hz);rw[bK];refine⟨.ref s.heap.objs.size,_,I.laid (t':=s.toks) (o:=.tup (sX xs lo hi)) (λb ob q=>vZ _ q) (vT _) ?_,rfl,q _ (I.hok.fresh (vT _))⟩;exact⟨vR (oD xs lo hi) hz,_,(r.drop (HT.eI xs.length 0 lo)).take (HT.eI xs.length xs.length hi - HT.eI xs.length 0 lo),IsTup.new _ _⟩
def Qq (K:PySem.W.Frag):R2:=λx y H Q=>∃a b xs ys,x=.ref a/\y=.ref b/\jo K H a xs/\jo K H b ys/\xs≠[]/\xs.length+ys.length<=sizeLine /\
 (ys=[]->Q (.ref a) H)/\(ys≠[]->∀p,H p=none->Q (.ref p) (upd H p (.tup (xs++ys))))
theorem aX.nil_iff (r:aX xs us):us=[]↔xs=[]:=by
 cases r with
 |nil=>simp
 |cons _ _=>simp
theorem IW:dR X (binaryOp .Add) (Qq X.K):=by
 intro ae s σ H x y v u Q I rx ry h;obtain⟨a,b,xs,ys,rfl,rfl,ha,hb,hx,hz,q1,q2⟩:=h;cases rx
 cases ry
 obtain⟨its,r1,p1,_⟩:=I.tuple ha;obtain⟨zY,r2,p2,_⟩:=I.tuple hb;refine HT.IS p1 p2 (λz=>hx (r1.nil_iff.mp z)) (λz=>⟨.ref a,H,I,rfl,q1 (r2.nil_iff.mp z)⟩) (λz=>?_) (by rw[←r1.length,←r2.length];exact hz);refine⟨.ref s.heap.objs.size,_,I.laid (t':=s.toks) (o:=.tup (xs++ys)) (λb ob q=>vZ _ q) (vT _) ?_,rfl,q2 (λw=>z (r2.nil_iff.mpr w)) _ (I.hok.fresh (vT _))⟩;exact⟨by rw[uZ];exact hz,_,r1.append r2,IsTup.new _ _⟩
end
def D2 (n:Nat)(i:Int):Option Nat:=if 0<=i then (if i<n then some i.toNat else none)else if -(n:Int)<=i then some (i+n).toNat else none
def oE {α:Type}(xs:List α)(i:Int):Option α:=(D2 xs.length i).bind λj=>xs[j]?
theorem BG (h:D2 n i=some j):seqIndex? i n=some j/\j<n/\-(n:Int)<=i/\i<n:=by
 unfold D2 at h;by_cases h0:0<=i
 ·rw[if_pos h0]at h;by_cases h1:i<n
  ·rw[if_pos h1]at h;have e:i.toNat=j:=vK h;exact⟨by rw[seqIndex_of h0 h1,e],by omega,by omega,h1⟩
  ·rw[if_neg h1]at h;cases h
 ·rw[if_neg h0]at h;by_cases h1 : -(n:Int)<=i
  ·rw[if_pos h1]at h;have e:(i+n).toNat=j:=vK h;exact⟨by rw[seqIndex_neg (by omega) h1,e],by omega,h1,by omega⟩
  ·rw[if_neg h1]at h;cases h
theorem wg {α:Type}{xs:List α}{i:Int}{v:α}(h:oE xs i=some v):∃j,seqIndex? i xs.length=some j/\xs[j]? = some v/\j<xs.length/\-(xs.length:Int)<=i/\i<xs.length:=by
 unfold oE at h;cases e:D2 xs.length i with
 |none=>rw[e]at h;cases h
 |some j=>
  rw[e]at h;obtain⟨h1,h2,h3,h4⟩:=BG e;exact⟨j,h1,h,h2,h3,h4⟩
theorem IX {α:Type}{xs:List α}{j:Nat}{v:α}(h:xs[j]? = some v):oE xs (j:Int)=some v:=by
 have hj:j<xs.length:=(vV h).1;have e:D2 xs.length (j:Int)=some j:=by
  unfold D2;rw[if_pos (by omega),if_pos (by omega)];simp
 unfold oE;rw[e];exact h
def wj (b:Expr):Prop:=∀o i,subscripted b false o i=operate [o,i] (getItem o i)
def Im (X:Cx)(r:R2):Prop :=
 ∀(value slice:Expr)(ae:List (Addr×Obj))(s:Shared)(σ:St)(H:Hp)(x y:V)(v u:Value)(Q:VK),Inv X ae σ H s->ba x v->ba y u->r x y H Q ->
  subscripted slice false v u=operate [v,u] (getItem v u)->wpAny (model X.prog X.w) X.A (subscriptTail value slice v u) (EP X ae σ Q) X.xe s
def IY (X:Cx)(id:String)(r:V->List V->Hp->VK->Prop):Prop :=
 ∀(ae:List (Addr×Obj))(s:Shared)(σ:St)(H:Hp)(x:V)(xs:List V)(v:Value)(us:List Value)(Q:VK),Inv X ae σ H s->ba x v->aX xs us->r x xs H Q ->
  wpAny (model X.prog X.w) X.A (call (.builtin id) (v::us)) (EP X ae σ Q) X.xe s
section
variable {X:Cx}{a b:Expr}{ta tb:TE}{pos:Pos}
theorem Im.or (h:Im X r)(h':Im X r'):Im X (λx y H Q=>r x y H Q∨r' x y H Q):=by
 intro value slice ae s σ H x y v u Q I rx ry q hs;rcases q with q|q
 ·exact h value slice ae s σ H x y v u Q I rx ry q hs
 ·exact h' value slice ae s σ H x y v u Q I rx ry q hs
theorem IY.or {id:String}{r r':V->List V->Hp->VK->Prop}(h:IY X id r)(h':IY X id r'):IY X id (λx xs H Q=>r x xs H Q∨r' x xs H Q):=by
 intro ae s σ H x xs v us Q I rx rs q;rcases q with q|q
 ·exact h ae s σ H x xs v us Q I rx rs q
 ·exact h' ae s σ H x xs v us Q I rx rs q
theorem Ln (hr:Im X r)(ha:PE X a ta)(hb:PE X b tb)(hs:wj b):PE X (.Subscript a b pos) (Sr r ta tb):=by
 intro ae s σ H Q I h;exact Subscript_ (MJ ha hb I h λv u s2 x y H2 I2 rx ry q=>hr a b ae s2 σ H2 x y v u Q I2 rx ry q (hs _ _))
def Ts (K:PySem.W.Frag):R2:=λx y H Q=>∃p xs i v,x=.ref p/\y=.int i/\iP K H p xs/\oE xs i=some v/\Q v H
def Tt (K:PySem.W.Frag):R2:=λx y H Q=>∃p xs i v,x=.ref p/\y=.int i/\jo K H p xs/\oE xs i=some v/\Q v H
def Tu:R2:=λx y H Q=>∃z i c,x=.str z/\y=.int i/\z.length<=sizeLine/\oE z.cps.toList i=some c/\Q (.str ⟨#[c]⟩) H
theorem IZ:Im X (Ts X.K):=by
 intro value slice ae s σ H x y v u Q I rx ry h hs;obtain⟨p,xs,i,z,rfl,rfl,hq,he,q⟩:=h;cases rx
 obtain⟨t,rfl⟩:=ry;obtain⟨its,r,pl,hz⟩:=I.list hq;obtain⟨j,h1,h2,h3,h4,h5⟩:=wg he;obtain⟨w,ew,Rk⟩:=r.get h2;have hl:=r.length;have hn:=nR;have mo:EP X ae σ Q w s:=⟨z,H,I,Rk,q⟩;by_cases h0:0<=i
 ·have hj:i.toNat=j:=by
   rw[seqIndex_of h0 h5]at h1;exact vK h1
  exact item_listR pl.isList h0 (by omega) (by rw[hj];simpa using ew) mo hs
 ·have hj:(i+(its.toArray.size:Int)).toNat=j:=by
   rw[seqIndex_neg (by omega) h4]at h1;rw[vH,←hl];exact vK h1
  exact subscriptTail_builtinR (x:=w) pl.isList.typeIs slot_list_getitem.lookup
   (wpAny_getItem_list_neg (Q:=λr s'=>r=w/\EP X ae σ Q r s') pl.isList (by omega) (by rw[vH]<;>omega) (by omega) (by rw[hj];simpa using ew) ⟨rfl,mo⟩) hs
theorem A0:Im X (Tt X.K):=by
 intro value slice ae s σ H x y v u Q I rx ry h hs;obtain⟨p,xs,i,z,rfl,rfl,hq,he,q⟩:=h;cases rx
 obtain⟨t,rfl⟩:=ry;obtain⟨its,r,pl,hz⟩:=I.tuple hq;obtain⟨j,h1,h2,h3,h4,h5⟩:=wg he;obtain⟨w,ew,Rk⟩:=r.get h2;have hl:=r.length;have hn:=nR;have mo:EP X ae σ Q w s:=⟨z,H,I,Rk,q⟩;exact subscriptTail_builtinR (x:=w) pl.typeIs slot_tuple_getitem.lookup
  (getItem_tuple (j:=j) (Q:=λr s'=>r=w/\EP X ae σ Q r s') pl (by omega) (by omega) (by rw[vH,←hl];exact h1) (by simpa using ew) ⟨rfl,mo⟩) hs
theorem A1:Im X Tu:=by
 intro value slice ae s σ H x y v u Q I rx ry h hs;obtain⟨z,i,c,rfl,rfl,hz,he,q⟩:=h;obtain⟨t,rfl⟩:=rx;obtain⟨t',rfl⟩:=ry;obtain⟨j,h1,h2,h3,h4,h5⟩:=wg he;have hl:z.cps.toList.length=z.length:=by simp[Str.length]
 rw[hl]at h1 h4 h5;have hn:=nR;exact tail_any (typeIs_str s z t) slot_str_getitem.lookup (getItem_str (c:=c) (by
  have e1:decide (i < -(2 ^ 63:Int))=false:=decide_eq_false (by omega);have e2:decide (i ≥ 2 ^ 63)=false:=decide_eq_false (by omega);rw[e1,e2,Bool.or_false]) (by rw[h1];simpa using h2) ⟨.str ⟨#[c]⟩,H,I.tok _,⟨_,rfl⟩,q⟩) hs
theorem A2 (its:List Value)(n j:Nat)(u:Value):Obj.mapSeq (·.setIfInBounds j u) { cls:=.type "list",data:=.seq its.toArray n }={ cls:=.type "list",data:=.seq (its.set j u).toArray n }:=by
 simp[Obj.mapSeq]
theorem Inv.lst (I:Inv X ae σ H s)(h:H p=some (.lst xs)):
  ∃(its:List Value)(n:Nat),aX xs its/\s.heap.get? p=some { cls:=.type "list",data:=.seq its.toArray n }/\xs.length<=sizeLine:=by
 obtain⟨z,its,n,r,e⟩:=I.hok p _ h;exact⟨its,n,r,e,z⟩
theorem Inv.lstUpd {ae:List (Addr×Obj)}{σ:St}{H:Hp}{s:Shared}{p:Addr}{xs ys:List V}{its its':List Value}{n n':Nat}{f:Obj->Obj}(I:Inv X ae σ H s)(h:H p=some (.lst xs))
  (ho:s.heap.get? p=some { cls:=.type "list",data:=.seq its.toArray n }) (hf:f { cls:=.type "list",data:=.seq its.toArray n }={ cls:=.type "list",data:=.seq its'.toArray n' }) (r:aX ys its') (hz:ys.length<=sizeLine) (t:Nat):
  Inv X ae σ (upd H p (.lst ys)) { s with heap:=s.heap.update p f,toks:=t }:=by
 have e:(s.heap.update p f).get? p=some { cls:=.type "list",data:=.seq its'.toArray n' }:=by
  rw[Heap.get?_update_self f ho (by rw[hf]<;>rfl),hf]
 refine I.write (x:=p) (e:=p) (by rw[h];trivial) (.inl rfl) (λb u hb q=>(Heap.get?_update_other _ _ (Ne.symm hb)).trans q) ⟨_,e⟩ ?_;exact⟨hz,its',n',r,e⟩
def Qr:V->V->V->Hp->(Hp->Prop)->Prop:=λo i v H Q=>∃p xs k j,o=.ref p/\i=.int k/\H p=some (.lst xs)/\D2 xs.length k=some j/\Q (upd H p (.lst (xs.set j v)))
theorem Fk:PZ X Qr:=by
 intro ae s σ H o i v ov iv u Q I ro ri rv h;obtain⟨p,xs,k,j,rfl,rfl,hp,hj,q⟩:=h;cases ro
 obtain⟨t,rfl⟩:=ri;obtain⟨its,n,r,ho,hz⟩:=I.lst hp;obtain⟨h1,h2,h3,h4⟩:=BG hj;have hl:=r.length;have hn:=nR;have I':Inv X ae σ (upd H p (.lst (xs.set j v))) { s with heap:=s.heap.update p (Obj.mapSeq (·.setIfInBounds j u)) } :=
  I.lstUpd hp ho (A2 its n j u) (r.set rv j) (by rw[List.length_set];exact hz) s.toks
 by_cases h0:0<=k
 ·have hk:k.toNat=j:=by
   rw[seqIndex_of h0 h4]at h1;exact vK h1
  exact PySem.W.ki_setAt ho h0 (by omega) (by rw[vH,←hl];exact h4) (by rw[hk];exact⟨_,I',q⟩)
 ·have hk:(k+(its.toArray.size:Int)).toNat=j:=by
   rw[seqIndex_neg (by omega) h3]at h1;rw[vH,←hl];exact vK h1
  exact PySem.W.ki_setBack ho (by omega) (by rw[vH,←hl];exact h3) (by omega) (by rw[hk];exact⟨_,I',q⟩)
theorem wl (lo hi:Option Int)(n:Nat):(sliceBounds lo hi none n).1=((HT.eI n 0 lo:Nat):Int)/\(sliceBounds lo hi none n).2.1=((HT.eI n n hi:Nat):Int)/\(sliceBounds lo hi none n).2.2=1:=by
 refine⟨?_,?_,rfl⟩
 ·cases lo with
  |none=>simp[sliceBounds,HT.eI]
  |some i=>
   simp only[sliceBounds,HT.eI,Option.getD_none,show(1:Int) > 0 by decide,if_true];by_cases h:i<0
   ·simp only[h,if_true]<;>omega
   ·simp only[h,if_false]<;>omega
 ·cases hi with
  |none=>simp[sliceBounds,HT.eI]
  |some i=>
   simp only[sliceBounds,HT.eI,Option.getD_none,show(1:Int) > 0 by decide,if_true];by_cases h:i<0
   ·simp only[h,if_true]<;>omega
   ·simp only[h,if_false]<;>omega
theorem sY (its:List Value)(lo hi:Option Int):slicePick its.toArray lo hi none=((its.drop (HT.eI its.length 0 lo)).take (HT.eI its.length its.length hi - HT.eI its.length 0 lo)).toArray:=by
 obtain⟨h1,h2,h3⟩:=wl lo hi its.toArray.size;unfold slicePick;rw[h1,h2,h3];simp only[sliceRange_one,pick_run,vH]<;>rfl
def Tv (K:PySem.W.Frag):V->Option Int->Option Int->Hp->VK->Prop:=λx lo hi H Q=>∃a xs,x=.ref a/\iP K H a xs/\∀p,H p=none->Q (.ref p) (upd H p (.lst (sX xs lo hi)))
theorem Ja:EK X (Tv X.K):=by
 intro ae s σ H x v vl vu lo hi sl Q I rx hs pl pu h;obtain⟨a,xs,rfl,hx,q⟩:=h;cases rx
 obtain⟨its,r,ht,hz⟩:=I.list hx;have bK:=r.length;refine⟨"list",_,slot_list_getitem.lookup,ht.isList.typeIs,?_⟩;refine wpAny_getItem_list_slice ht.isList hs pl pu .none (by simp) ?_ (by rw[vH]<;>omega)
 rw[sY,←bK];refine⟨.ref s.heap.objs.size,_,I.laid (t':=s.toks) (o:=.lst (sX xs lo hi)) (λb ob q=>vZ _ q) (vT _) ?_,rfl,q _ (I.hok.fresh (vT _))⟩;exact⟨vR (oD xs lo hi) hz,_,0,(r.drop (HT.eI xs.length 0 lo)).take (HT.eI xs.length xs.length hi - HT.eI xs.length 0 lo),vY _ rfl⟩
noncomputable def lB:V->Bool
 |.non=>true
 |.bl _=>true
 |.int _=>true
 |.str _=>true
 |_=>false
def Io:V->V->Bool
 |.non,.non=>true
 |.bl a,.bl b=>a == b
 |.bl a,.int b=>(if a then 1 else 0) == b
 |.int a,.bl b=>a == (if b then 1 else 0)
 |.int a,.int b=>a == b
 |.str a,.str b=>a == b
 |_,_=>false
theorem MZ (ry:ba y u)(rx:ba x v)(fy:lB y=true)(fx:lB x=true):SeqAt.EqAt A s u v (Io y x):=by
 cases y with
 |non=>
  cases ry
  cases x with
  |non=>cases rx;exact SeqAt.EqAt.same _
  |bl b=>cases rx;exact SeqAt.EqAt.none_bool b
  |int b=>obtain⟨t,rfl⟩:=rx;exact SeqAt.EqAt.none_int b t
  |str b=>obtain⟨t,rfl⟩:=rx;exact SeqAt.EqAt.none_str b t
  |_=>exact absurd (show false=true from fx) uX
 |bl a=>
  cases ry
  cases x with
  |non=>cases rx;exact SeqAt.EqAt.bool_none a
  |bl b=>cases rx;exact SeqAt.EqAt.bool_bool a b
  |int b=>obtain⟨t,rfl⟩:=rx;exact SeqAt.EqAt.bool_int a b t
  |str b=>obtain⟨t,rfl⟩:=rx;exact SeqAt.EqAt.bool_str a b t
  |_=>exact absurd (show false=true from fx) uX
 |int a=>
  obtain⟨t',rfl⟩:=ry;cases x with
  |non=>cases rx;exact SeqAt.EqAt.int_none a t'
  |bl b=>cases rx;exact SeqAt.EqAt.int_bool a t' b
  |int b=>obtain⟨t,rfl⟩:=rx;exact SeqAt.EqAt.int_int a t' b t
  |str b=>obtain⟨t,rfl⟩:=rx;exact SeqAt.EqAt.int_str a t' b t
  |_=>exact absurd (show false=true from fx) uX
 |str a=>
  obtain⟨t',rfl⟩:=ry;cases x with
  |non=>cases rx;exact SeqAt.EqAt.str_none a t'
  |bl b=>cases rx;exact SeqAt.EqAt.str_bool a t' b
  |int b=>obtain⟨t,rfl⟩:=rx;exact SeqAt.EqAt.str_int a t' b t
  |str b=>obtain⟨t,rfl⟩:=rx;exact SeqAt.EqAt.str_str a t' b t
  |_=>exact absurd (show false=true from fx) uX
 |_=>exact absurd (show false=true from fy) uX
def A3 (x:V)(u:Value):Bool:=match u with
 |.none=>Io .non x
 |.bool b=>Io (.bl b) x
 |.int i _=>Io (.int i) x
 |.str z _=>Io (.str z) x
 |_=>false
theorem Fl (r:ba y u)(f:lB y=true):A3 x u=Io y x:=by
 cases y with
 |non=>cases r;rfl
 |bl b=>cases r;rfl
 |int i=>obtain⟨t,rfl⟩:=r;rfl
 |str z=>obtain⟨t,rfl⟩:=r;rfl
 |_=>exact absurd (show false=true from f) uX
theorem mv:∀ {xs:List V}{us:List Value},aX xs us->xs.all lB=true->us.any (A3 x)=xs.any λy=>Io y x
 |_,_,.nil,_=>rfl
 |y::xs,u::us,.cons r t,f=>by
  rw[List.all_cons,vC]at f;rw[List.any_cons,List.any_cons,Fl r f.1,mv t f.2]
theorem ky (rx:ba x v)(fx:lB x=true):∀ {xs:List V}{us:List Value},aX xs us->xs.all lB=true->∀u∈us,SeqAt.EqAt A s u v (A3 x u)
 |_,_,.nil,_=>λu hu=>by cases hu
 |y::xs,u::us,.cons r t,f=>λu' hu=>by
  rw[List.all_cons,vC]at f;rcases vP hu with rfl|hu
  ·rw[Fl r f.1];exact MZ r rx f.1 fx
  ·exact ky rx fx t f.2 u' hu
noncomputable def Ss (x:V)(xs:List V):Bool:=xs.any λy=>Io y x
def V7 (K:PySem.W.Frag)(Yk:Bool):R2:=λx y H Q=>∃p xs,y=.ref p/\(iP K H p xs∨jo K H p xs)/\lB x=true/\xs.all lB=true/\Q (.bl (if Yk then !Ss x xs else Ss x xs)) H
theorem D3:dR X (compareOp .In) (V7 X.K false):=by
 intro ae s σ H x y v u Q I rx ry h;obtain⟨p,xs,rfl,hq,fx,fs,q⟩:=h;cases ry
 rcases hq with hq|hq
 ·obtain⟨its,r,pl,hz⟩:=I.list hq;refine SeqAt.in_listAt (A3 x) pl.isList (λw hw=>ky rx fx r fs w (by simpa using hw)) ⟨.bl _,H,I,rfl,?_⟩;rw[show its.toArray.any (A3 x)=its.any (A3 x) by simp,mv r fs];exact q
 ·obtain⟨its,r,pl,hz⟩:=I.tuple hq;refine SeqAt.in_tupleAt (A3 x) pl (λw hw=>ky rx fx r fs w (by simpa using hw)) ⟨.bl _,H,I,rfl,?_⟩;rw[show its.toArray.any (A3 x)=its.any (A3 x) by simp,mv r fs];exact q
theorem wm:dR X (compareOp .NotIn) (V7 X.K true):=by
 intro ae s σ H x y v u Q I rx ry h;obtain⟨p,xs,rfl,hq,fx,fs,q⟩:=h;cases ry
 rcases hq with hq|hq
 ·obtain⟨its,r,pl,hz⟩:=I.list hq;refine SeqAt.notIn_listAt (A3 x) pl.isList (λw hw=>ky rx fx r fs w (by simpa using hw)) ⟨.bl _,H,I,rfl,?_⟩;rw[show its.toArray.any (A3 x)=its.any (A3 x) by simp,mv r fs];exact q
 ·obtain⟨its,r,pl,hz⟩:=I.tuple hq;refine SeqAt.notIn_tupleAt (A3 x) pl (λw hw=>ky rx fx r fs w (by simpa using hw)) ⟨.bl _,H,I,rfl,?_⟩;rw[show its.toArray.any (A3 x)=its.any (A3 x) by simp,mv r fs];exact q
theorem wn:bT X (.builtin "len") (λxs H Q=>∃p ys,xs=[.ref p]/\(iP X.K H p ys∨jo X.K H p ys)/\Q (.int ys.length) H):=by
 intro ae s σ H xs us Q I r h;obtain⟨p,ys,rfl,hq,q⟩:=h;obtain⟨u,rfl,rx⟩:=gZ r;cases rx
 have hn:=nR;rcases hq with hq|hq
 ·obtain⟨its,r',pl,hz⟩:=I.list hq;have bK:=r'.length;exact Calls.call_len_list pl.isList (by simp only[vH]<;>omega) ⟨.int ys.length,H,I.tok _,⟨s.toks+1,by rw[vH,bK]⟩,q⟩
 ·obtain⟨its,r',pl,hz⟩:=I.tuple hq;have bK:=r'.length;exact len_tuple pl (by simp only[vH]<;>omega) ⟨.int ys.length,H,I.tok _,⟨s.toks+1,by rw[vH,bK]⟩,q⟩
theorem wo:bT X (.builtin "len") (λxs H Q=>∃z,xs=[.str z]/\z.length<=sizeLine/\Q (.int z.length) H):=by
 intro ae s σ H xs us Q I r h;obtain⟨z,rfl,hz,q⟩:=h;obtain⟨u,rfl,t,rfl⟩:=gZ r;have hn:=nR;exact len_str (by omega) ⟨.int z.length,H,I.tok _,⟨_,rfl⟩,q⟩
theorem bT.or (h:bT X f r)(h':bT X f r'):bT X f (λxs H Q=>r xs H Q∨r' xs H Q):=by
 intro ae s σ H xs us Q I rs q;rcases q with q|q
 ·exact h ae s σ H xs us Q I rs q
 ·exact h' ae s σ H xs us Q I rs q
theorem wq:bT X (.type "list") (λxs H Q=>∃p ys,xs=[.ref p]/\(iP X.K H p ys∨jo X.K H p ys)/\∀l,H l=none->Q (.ref l) (upd H l (.lst ys))):=by
 intro ae s σ H xs us Q I r h;obtain⟨p,ys,rfl,hq,q⟩:=h;obtain⟨u,rfl,rx⟩:=gZ r;cases rx
 have mo:∀(its:List Value),aX ys its->ys.length<=sizeLine->∀(h':Heap)(c':Nat),(∀b o',s.heap.get? b=some o'->h'.get? b=some o') ->
   h'.get? s.heap.objs.size=some { cls:=.type "list",dict:=none,data:=.seq its.toArray c',slots:=#[] }->EP X ae σ Q (.ref s.heap.objs.size) { s with heap:=h' }:=λits r' hz h' c' kp e=>
  ⟨.ref s.heap.objs.size,_,I.laid (t':=s.toks) kp (vT _) (show bR X.prog X.w _ h' _ (.lst ys)from ⟨hz,its,c',r',e⟩),rfl,q _ (I.hok.fresh (vT _))⟩
 rcases hq with hq|hq
 ·obtain⟨its,r',pl,hz⟩:=I.list hq;have bK:=r'.length;obtain⟨o,ho,hc,n,hd⟩:=pl.isList;exact call_list_seq p (.inl rfl) ho hc hd (λh' c' kp e=>mo its r' hz h' c' kp e) (by simp only[vH]<;>omega)
 ·obtain⟨its,r',pl,hz⟩:=I.tuple hq;have bK:=r'.length;obtain⟨o,ho,hc,n,hd⟩:=pl;exact call_list_seq p (.inr rfl) ho hc hd (λh' c' kp e=>mo its r' hz h' c' kp e) (by simp only[vH]<;>omega)
theorem sZ:bT X (.type "tuple") (λxs H Q=>∃p ys,xs=[.ref p]/\((iP X.K H p ys/\∀l,H l=none->Q (.ref l) (upd H l (.tup ys)))∨(jo X.K H p ys/\Q (.ref p) H))):=by
 intro ae s σ H xs us Q I r h;obtain⟨p,ys,rfl,h⟩:=h;obtain⟨u,rfl,rx⟩:=gZ r;cases rx
 rcases h with⟨hq,q⟩|⟨hq,q⟩
 ·obtain⟨its,r',pl,hz⟩:=I.list hq;have bK:=r'.length;refine call_tuple_list pl.isList (λh' kp=>?_) (by simp only[vH]<;>omega)
  have I1:Inv X ae σ H { s with heap:=h' }:=I.kept (t':=s.toks) kp;have I2:Inv X ae σ (upd H h'.objs.size (.tup ys)) { s with heap:=h'.push { cls:=.type "tuple",data:=.seq its.toArray } } :=
   I1.laid (t':=s.toks) (λb o e=>vZ _ e) (vT _) (show bR X.prog X.w _ _ _ (.tup ys)from ⟨hz,its,r',IsTup.new _ _⟩)
  exact⟨.ref h'.objs.size,_,I2,rfl,q _ (I1.hok.fresh (vT _))⟩
 ·obtain⟨its,r',pl,hz⟩:=I.tuple hq;exact call_tuple_same pl ⟨.ref p,H,I,rfl,q⟩
def V8 (K:PySem.W.Frag)(T:String)(x:V)(H:Hp):Prop:=match x with
 |.str _=>T = "str"
 |.int _=>T = "int"
 |.ref p=>(T = "list"/\∃xs,iP K H p xs)∨(T = "tuple"/\∃o,K.lookup p=some o/\o.cls=.type "tuple"/\o.dict=none) ∨
   (T = "dict"/\((∃aI ob,H p=some (.dK aI ob))∨∃aI,H p=some (.dT aI)))∨(T = "set"/\∃S n,H p=some (.set S n))
 |_=>False
theorem A4 (I:Inv X ae σ H s)(r:ba x v)(ty:V8 X.K T x H):
  s.TypeIs v T/\∀a,v=.ref a->∃ob,s.heap.get? a=some ob/\ob.dict=none:=by
 cases x with
 |str z=>
  obtain⟨t,rfl⟩:=r;cases (show T = "str" from ty)
  exact⟨typeIs_str s z t,λ_ e=>nomatch e⟩
 |int i=>
  obtain⟨t,rfl⟩:=r;cases (show T = "int" from ty)
  exact⟨typeIs_int s i t,λ_ e=>nomatch e⟩
 |ref p=>
  cases r
  rcases ty with⟨rfl,xs,hq⟩|⟨rfl,o,hk,hc,hd⟩|⟨rfl,hk⟩|⟨rfl,S,n,hk⟩
  ·obtain⟨its,_,pl,_⟩:=I.list hq;refine⟨pl.isList.typeIs,λa e=>?_⟩;cases e
   obtain⟨o,n,e,c,hd,_⟩:=pl;exact⟨o,e,hd⟩
  ·refine⟨⟨o,I.kIn p o hk,hc⟩,λa e=>?_⟩;cases e
   exact⟨o,I.kIn _ o hk,hd⟩
  ·have z:∃o,s.heap.get? p=some o/\o.ExactDict:=by
    rcases hk with⟨aI,Wd,hk⟩|⟨aI,hk⟩
    ·obtain⟨_,_,_,_,_,o,_,_,e,ex,_⟩:=I.hok p _ hk;exact⟨o,e,ex⟩
    ·obtain⟨_,_,_,_,o,_,_,e,ex,_⟩:=I.hok p _ hk;exact⟨o,e,ex⟩
   obtain⟨o,e,ex⟩:=z;refine⟨⟨o,e,ex.1⟩,λa e2=>?_⟩;cases e2
   exact⟨o,e,ex.2.1⟩
  ·obtain⟨o,_,_,_,e,ex,_⟩:=I.hok p _ hk;refine⟨⟨o,e,ex.1⟩,λa e2=>?_⟩;cases e2
   exact⟨o,e,ex.2.1⟩
 |_=>exact False.elim ty
def Xw (K:PySem.W.Frag)(T:String)(r:V->List V->Hp->VK->Prop)(to:TE)(t:TA):TE:=λσ H Q=>to σ H λx H1=>V8 K T x H1/\t σ H1 λxs H2=>r x xs H2 Q
variable {o e:Expr}{es:List Expr}{to:TE}{t:TA}{name:Str}{dM cM:Pos}{T id:String}{r:V->List V->Hp->VK->Prop}
theorem Fm (pa:PlainAttrs T)(slot:Slot T name id)(Mf:typeOf (.builtin id)=pure (.type "method_descriptor"))(hm:IY X id r)(ho:PE X o to)(ha:PA X (e::es) t)
  (iM:attributeBase o name X.env (eval o X.env)=eval o X.env:=by rfl)
  (B9:((backTo cM (starEach (e::es) X.env)).all (λx=>!x.1) && (backToKw cM (keywordEach [] X.env)).all (λx=>x.1.isSome)
   && decide ((e::es).length+([]:List Keyword).length+(if([]:List Keyword).isEmpty then 0 else 1)<30))=true:=by rfl)
  (iN:(dM.endLine == cM.line)=true:=by rfl) (hs:starEach (e::es) X.env=(false,eval e X.env)::starEach es X.env:=by rfl) (Ox:(backTo cM (starEach es X.env)).any (·.1)=false:=by rfl):
  PE X (.Call (.Attribute o name dM) (e::es) [] cM) (Xw X.K T r to t):=by
 intro ae s σ H Q I h;refine wpAny_Call_method_late iM B9 iN rfl (cY (ho ae s σ H _ I h) λv s1 ⟨x,H1,I1,r1,ty,q1⟩=>?_);obtain⟨h1,h2⟩:=A4 I1 r1 ty;refine⟨T,id,pa,slot,Mf,h1,h2,?_⟩;have hA:=ha cM ae s1 σ H1 _ I1 q1;rw[hs]at hA ⊢;refine Calls.callWith_builtin (by show(false || (backTo cM (starEach es X.env)).any (·.1))=false;rw[Ox]<;>rfl) (Calls.evalArgs_plain ?_)
 exact cY hA λus s2 ⟨vs,H2,I2,r2,q2⟩=>hm ae s2 σ H2 x vs v us Q I2 r1 r2 q2
/- xs.append(e),list.index on a module's tuple .. are IY facts of 06m -/
end
def Xx (X:Cx)(id:String)(r:V->List V->Hp->VK->Prop):Prop :=
 ∀(ae:List (Addr×Obj))(s:Shared)(σ:St)(H:Hp)(x:V)(xs:List V)(v:Value)(us:List Value)(Q:VK),Inv X ae σ H s->ba x v->aX xs us->r x xs H Q ->
  wpAny (model X.prog X.w) X.A (call (.builtin id) (v::us)) (EP X ae σ Q) X.xe s
theorem aX.one:∀ {x:V}{us:List Value},aX [x] us->∃u,us=[u]/\ba x u
 |_,_,.cons r .nil=>⟨_,rfl,r⟩
theorem aX.two:∀ {x y:V}{us:List Value},aX [x,y] us->∃u v,us=[u,v]/\ba x u/\ba y v
 |_,_,_,.cons r (.cons q .nil)=>⟨_,_,rfl,r,q⟩
theorem aX.eraseIdx:∀ {xs:List V}{us:List Value}(i:Nat),aX xs us->aX (xs.eraseIdx i) (us.eraseIdx i)
 |_,_,_,.nil=>.nil
 |_,_,0,.cons _ t=>t
 |_,_,i+1,.cons r t=>.cons r (aX.eraseIdx i t)
theorem aX.rep (h:aX xs us):∀k:Nat,aX (List.replicate k xs).flatten (List.replicate k us).flatten
 |0=>.nil
 |k+1=>by
  rw[List.replicate_succ,List.replicate_succ,List.flatten_cons,List.flatten_cons];exact aX.append h (aX.rep h k)
theorem tR (its:List Value):∀(k:Nat)(mn:List Value),
  List.foldl (λx1 x2=>x1++x2) mn.toArray (List.replicate k its.toArray)=(mn++(List.replicate k its).flatten).toArray
 |0,mn=>by simp
 |k+1,mn=>by
  have e:mn.toArray++its.toArray=(mn++its).toArray:=by simp
  have e2:(mn++its)++(List.replicate k its).flatten=mn++(List.replicate (k+1) its).flatten:=by
   rw[List.replicate_succ,List.flatten_cons,List.append_assoc]
  rw[←e2,←tR its k (mn++its),←e,List.replicate_succ,List.foldl_cons]
section
variable {X:Cx}{ae:List (Addr×Obj)}{σ:St}{H:Hp}{s:Shared}{l b:Addr}{xs ys zs:List V}
theorem Inv.lset {its its':List Value}{n:Nat}{f:Array Value->Array Value}{t':Nat}(I:Inv X ae σ H s)(hH:H l=some (.lst xs))
  (e:s.heap.get? l=some { cls:=.type "list",data:=.seq its.toArray n }) (hf:f its.toArray=its'.toArray) (hv:aX ys its') (hz:ys.length<=sizeLine):
  Inv X ae σ (upd H l (.lst ys)) { s with heap:=s.heap.update l (Obj.mapSeq f),toks:=t' }:=by
 have q:=PySem.IsL.update e f;rw[hf]at q;refine I.write (x:=l) (e:=l) (by rw[hH];exact trivial) (.inl rfl) (λb' u hb hu=>(Heap.get?_update_other s.heap (Obj.mapSeq f) (Ne.symm hb)).trans hu) ⟨_,q⟩ ?_;exact⟨hz,its',_,hv,q⟩
theorem Inv.lnew (I:Inv X ae σ H s)(hv:aX ys its)(hz:ys.length<=sizeLine):
  Inv X ae σ (upd H s.heap.objs.size (.lst ys)) { s with heap:=s.heap.push { cls:=.type "list",data:=.seq its.toArray },toks:=t' } :=
 I.laid (λ_ _ q=>vZ _ q) (vT _) ⟨hz,its,0,hv,vY _ rfl⟩
theorem Inv.fresh (I:Inv X ae σ H s):H s.heap.objs.size=none:=I.hok.fresh (vT _)
theorem Inv.lstM (I:Inv X ae σ H s)(hH:H l=some (.lst xs)):xs.length<=sizeLine/\∃(its:List Value)(n:Nat),aX xs its/\xs.length=its.length/\s.heap.get? l=some { cls:=.type "list",data:=.seq its.toArray n }:=by
 obtain⟨z,its,n,r,e⟩:=I.hok l _ hH;exact⟨z,its,n,r,r.length,e⟩
theorem Fo (h:n<=sizeLine):Builtin.List.listTooLong n=false:=by
 unfold Builtin.List.listTooLong;exact decide_eq_false (by omega)
end
section
variable {X:Cx}
def BH:V->List V->Hp->VK->Prop:=λx vs H Q=>∃l xs y,x=.ref l/\vs=[y]/\H l=some (.lst xs)/\xs.length<sizeLine/\Q .non (upd H l (.lst (xs++[y])))
theorem tS:Xx X "list.append" BH:=by
 intro ae s σ H x vs v us Q I rx rv h;obtain⟨l,xs,y,rfl,rfl,hH,hz,q⟩:=h;cases rx
 obtain⟨u,rfl,ru⟩:=rv.one;obtain⟨z,its,n,r,hl,e⟩:=I.lstM hH;refine call_meets F.slot_list_append ⟨_,e,rfl⟩ F.entry_list_append (F.args_list_append_2 _ _) (PySem.list_append l its.toArray n u (by rw[vH];omega)) ⟨e,?_⟩;refine⟨.non,_,I.lset (its':=its++[u]) hH e (by simp) (r.append (.cons ru .nil)) ?_,rfl,q⟩;rw[uZ,List.length_singleton];omega
def Tw:R2:=λx y H Q=>∃l k xs,x=.ref l/\y=.int k/\H l=some (.lst xs)/\-(2 ^ 63)<=k/\k<2 ^ 63/\xs.length*k.toNat<=sizeLine /\
 ∀p,H p=none->Q (.ref p) (upd H p (.lst (List.replicate k.toNat xs).flatten))
theorem Jb {α:Type}(xs:List α)(k:Nat):(List.replicate k xs).flatten.length=k*xs.length:=by
 induction k with
 |zero=>simp
 |succ k ih=>rw[List.replicate_succ,List.flatten_cons,uZ,ih,Nat.succ_mul,Nat.add_comm]
theorem Na:dR X (binaryOp .Mult) Tw:=by
 intro ae s σ H x y v u Q I rx ry h;obtain⟨l,k,xs,rfl,rfl,hH,h1,h2,hz,q⟩:=h;cases rx
 obtain⟨t,rfl⟩:=ry;obtain⟨z,its,n,r,hl,e⟩:=I.lstM hH;have bK:its.toArray.size*k.toNat<=sizeLine:=by rw[vH,←hl];exact hz
 have Uu:¬its.toArray.size*k.toNat > (2 ^ 63 - 1) / 8:=by
  have:(sizeLine:Nat)<=(2 ^ 63 - 1) / 8:=by decide
  omega
 have Uv:¬(!Builtin.List.listFitsIndex k)=true:=by
  rw[fitsIndex_both h1 h2];exact uX
 have Rm:¬Builtin.List.listTooLong (its.toArray.size*k.toNat)=true:=by
  rw[Fo bK];exact uX
 have Uw:List.foldl (λx1 x2=>x1++x2) #[] (List.replicate (if its.toArray.isEmpty=true then 0 else k.toNat) its.toArray)=(List.replicate k.toNat its).flatten.toArray:=by
  have f0:∀m:Nat,List.foldl (λx1 x2=>x1++x2) #[] (List.replicate m its.toArray)=(List.replicate m its).flatten.toArray:=λm=>by
   have:=tR its m [];rw[List.nil_append]at this;exact this
  rw[f0];cases its with
  |nil=>simp
  |cons a r'=>rw[if_neg (by simp)]
 refine wpAny_binaryOp_repeat_ref (T:="list") (U:="int") (by decide) ⟨_,e,rfl⟩ (λs'=>typeIs_int s' k t) noFill_list_mul F.fills_int_mul F.slot_int_rmul repeat_list F.slot_int_index.lookup
  (call_meets F.slot_int_rmul (typeIs_int s k t) F.entry_int_rmul (F.args_int_rmul_2 _ _) (int___rmul___int_list k t l its.toArray n)
   ⟨e,rfl,⟨_,e,rfl⟩,call_meets F.slot_list_mul ⟨_,e,rfl⟩ F.entry_list_mul (F.args_list_mul_2 _ _) (AutoListH.list___mul___list_int_3 l its.toArray n k t Uv Uu Rm) ⟨e,?_⟩⟩)
 rw[Uw];exact⟨.ref _,_,I.lnew (t':=s.toks) (r.rep k.toNat) (by rw[Jb,Nat.mul_comm];exact hz),rfl,q _ I.fresh⟩
end
end L2
namespace Att
open PySem PySem.W PySem.Calls PyProof.Rows
theorem p8:∀(ns:List Int)(vs:List Value),WellAll P h vs (ns.map WData.int)->IntsAre vs ns:=by
 intro ns;induction ns with
 |nil=>
  intro vs w;rw[List.map_nil]at w;cases w
  exact .nil
 |cons n ns ih=>
  intro vs w;rw[uY]at w;cases w with
  |cons a b=>
   cases a
   exact .cons _ _ (ih _ b)
theorem D4 {l:OpenLaw}{n:Nat}(hn:l.most=some n){P:Params}{h:Heap}{args:List WData}{vals:List Value}
  (KP:l.row.toRowW.claim.pre args=true) (Ux:WellAll P h vals args):
  ∃a vs ns,vals=[Value.ref a]/\args=[WData.list (ns.map WData.int)]/\h.get? a=some { cls:=.type "list",data:=.seq vs.toArray }/\IntsAre vs ns/\ns.length<=n:=by
 have Uy:WShape.hasAll [] args [.list .int]=true:=(pre_splitW KP).1;have hc:l.pre.holds [] { args:=args }=true:=(pre_splitW KP).2;obtain⟨d,r,rfl,h1,h2⟩:=hasAllW_cons Uy;obtain rfl:=hasAllW_nil h2;obtain⟨xs,rfl,h3⟩:=hasW_list h1;obtain⟨ns,rfl⟩:=items_int h3;have bK:ns.length<=n:=by
  unfold OpenLaw.pre at hc;have h4:(WTm.not (.lt (.lit (.int (n:Int))) (.len (.arg 0)))).holds [] { args:=[.list (ns.map .int)] }=true:=by
   have h4:=(holds_andW hc).1;rw[hn]at h4;exact h4
  have h5:=condW_of h4 (w_not (w_lt w_lit (w_len_list (w_arg rfl))));rw[vI]at h5;refine Nat.le_of_not_lt λq=>?_;have q':(n:Int)<((ns.length:Nat):Int):=by omega
  first
   | (rw[decide_eq_true q']at h5;exact absurd h5 (by decide))
   | (simp at h5;omega)
 cases Ux with
 |cons w1 w2=>
  cases w2
  cases w1 with
  |list ho l8=>exact⟨_,_,ns,rfl,rfl,ho,p8 ns _ l8,bK⟩
theorem D5 (l:OpenLaw)(args:List WData):l.row.toRowW.claim.post args (.bool true) args=true :=
 postW_of (r:=l.row.toRowW) (X:=(true == true))
  (show WShape.has [] (.bool true) .bool=true by first|rfl|decide|simp[WShape.has,WShape.arms,WShape.armsAll])
  (show(WTm.eq .res (.lit (.bool true))).value [] { args:=args,res:=some (.bool true),after:=args }=some (.bool (true == true))from w_eq_bool (w_res rfl) w_lit) rfl
theorem xT {l:OpenLaw}{n:Nat}{q:Program}{Di:List Str}{XP:(Str->Option Value)->Heap->Prop}{YP:World->Heap->Prop}{d:DefRec}
  (hn:l.most=some n) (Rn:d.params.defaults=[])
  (call:∀(w:World)(s₀ s₁:Shared)(mg mb:Str->Option Value)(fa:Addr)(o:Obj)(pm cd doc:Value)(a:Addr)(vs:List Value)(ns:List Int),
   Ground q Di [] XP w s₀ mg mb s₁.heap->YP w s₁.heap ->
   s₁.heap.get? fa=some o->o.data=.func (docDef d.name d.params d.body d.scope pm cd doc)->s₁.heap.CodeRec cd d.name->mg d.name=some (.ref fa) ->
   s₁.heap.get? a=some { cls:=.type "list",data:=.seq vs.toArray }->IntsAre vs ns->ns.length<=n->s₁.gens=#[] ->
   codeAny (model l.prog w) callerA (.call (.ref fa) ⟨[.ref a],[]⟩) (λr s'=>r=.ok (.ret (.bool true))/\OldK s₁.heap s'.heap/\s'.os=s₁.os/\AllBare s'.gens) s₁):
  WalkO q Di XP YP l.row.toRowW d [] (λf vs=>PySem.call f vs):=by
 intro w s₀ s₁ mg mb G Y fa o pm cd doc dV kV ho hd jG hD hmg hg args vals as KP hlay hrd Ux hlo;obtain rfl:dV=.none:=Dflts.none hD Rn;obtain rfl:kV=.none:=Dflts.noKw hD;obtain⟨a,vs,ns,rfl,rfl,Oy,HP,bK⟩:=D4 hn KP Ux;refine enter_call (codeAny_mono (call w s₀ s₁ mg mb fa o pm cd doc a vs ns G Y ho (fd_plain hd) jG hmg Oy HP bK hg) λr s' hq=>?_);obtain⟨rfl,h2,h3,h4⟩:=hq;exact⟨.inl ⟨.bool true,.bool true,[],rfl,λ_=>rfl,.bool true,D5 l _,λ_=>⟨List.Pairwise.nil,λ_ hm=>(nomatch hm)⟩⟩,h2,h3,h4⟩
section
variable {prog:Program}{w:World}{A:Around}{E:Value->Shared->Prop}{s:Shared}{K:Frag}
theorem Qs 
  (X:K.In s.heap) (hm:makesIn K C=true) (hi:findIn K (.ref C) "__init__" = some (some (.ref fI))) (hf:isFn K (.ref fI)=true)
  (h:codeAny (model prog w) (A.under (.builtin "type.__call__" ⟨.ref C::aF,kw⟩)) (.call (.ref fI) ⟨.ref (s.heap.objs.size+1)::aF,kw⟩) (InitBack (s.heap.objs.size+1) R)
   { s with heap:=(s.heap.push emptyDict).push (instObj C s.heap.objs.size) }):codeAny (model prog w) A (.call (.ref C) ⟨aF,kw⟩) R s:=by
 obtain⟨hh,g,d,t,os⟩:=s;exact make_core (makes_of X hm) (looks_findIn X hi) (λself=>bind_fn X self (beq_iff_eq.mp hf)) (.inl rfl) h
theorem OO 
  (X:K.In s.heap) (I:PySem.W.InstAt s.heap x ox C (some (dictOf es n))) (hg:plainGet K C name=true) (hh:hasDictIn K C=true) (ha:findIn K (.ref C) name=some none)
  (hl:getL name es=some (some v)) (hv:handedIn v=true) (h:Q v { s with toks:=s.toks+1 }):wpAny (model prog w) A (getAttr (.ref x) name expr) Q E s :=
 get_value X I (plainGet_of hg).1 (findObj_own hh ha rfl hl) hv h
def Tz (h:Heap)(L d:Addr):List (Addr×Obj):=(List.range h.objs.size).filterMap λa=>if a=L∨a=d then none else (h.get? a).map λo=>(a,o)
end
end Att
namespace L2
open PySem PySem.Spec PyProof.Rows
theorem ij:∀ {vs:List Value}{ns:List Int},IntsAre vs ns->aX (ns.map V.int) vs
 |_,_,.nil=>.nil
 |_,_,.cons n t h=>.cons ⟨t,rfl⟩ (ij h)
noncomputable def gB (s:Stmt):Arguments:=match s with
 |.FunctionDef _ a _ _ _ _ _ _ _ _=>a
 |_=>{ posonlyargs:=[],args:=[],vararg:=none,kwonlyargs:=[],kw_defaults:=[],kwarg:=none,defaults:=[] }
noncomputable def cO (s:Stmt):List Stmt:=match s with
 |.FunctionDef _ _ b _ _ _ _ _ _ _=>b
 |_=>[]
noncomputable def aQ (s:Stmt):Scope:=match s with
 |.FunctionDef _ _ _ _ _ _ sc _ _ _=>sc
 |_=>{ kind:=.function,names:=[],isGenerator:=false,isCoroutine:=false }
abbrev Ak:Ll:=λ_ _ _ _ _ _=>False
abbrev E0:XK:=λ_ _ _=>False
theorem Qt:Ax Ak X E0:=λ_ _ _ _ _ _ _ h=>h.elim
structure Oz (K:PySem.W.Frag)(x qual:Str)(st:Stmt)(f:Addr)(fd:FuncData):Prop where
 ex:∃(oc:Value)(od:Option Addr)(kV doc pm:Value)(an:Option Addr)(eU ct:Value)(pz:Array (Option Value)),
  fd=PySem.W.fnOf x qual (gB st) (cO st) (aQ st) .none kV doc pm an eU ct/\K.lookup f=some ⟨oc,od,.func fd,pz⟩/\PySem.W.codeIn K eU qual=true
 kp:PySem.W.keepIn K (.ref f)=true
section
variable {P:Program}{w:World}{K:PySem.W.Frag}{mg:Str->Option Value}{base:Heap}
theorem Oz.ok {x qual:Str}{st:Stmt}{f:Addr}{fd:FuncData}{N ps:List Str}{k:Nat}{sp:Sp}(F:Oz K x qual st f fd)(S:FnScope N ps (aQ st))(len:∀vs H Q E,sp vs H Q E->vs.length=ps.length)
  (HN:∀(eU:Value)(A:Around)(outer:List Env)(s:Shared)(H:Hp)(vs:List V)(Q:VK)(E:XK),fg k (A.deeper (envOfC qual (aQ st) s.heap.objs.size f eU))->sp vs H Q E ->
   ∃t,wa (p7 Ak P w K mg base N qual (aQ st) f eU A outer s H E).nox (cO st) t/\t { nx:=λ_ H'=>Q .non H',rt:=Q } (jY N vs) H):tH P w K mg base Ak (k+1) f fd ps sp:=by
 obtain⟨oc,od,kV,doc,pm,an,eU,ct,pz,rfl,lk,jG⟩:=F.ex;refine Lm lk jG S len λA outer s H vs Q E hr Pn=>?_;obtain⟨t,h,q⟩:=HN eU A outer s H vs Q E hr Pn;exact⟨t,h.nox,q⟩
theorem Oz.binds {x qual:Str}{st:Stmt}{f:Addr}{fd:FuncData}{ps:List Str}(F:Oz K x qual st f fd)
  (h:∀(kV doc pm:Value)(an:Option Addr)(eU ct:Value)(us:List Value),us.length=ps.length->bindArgs (PySem.W.fnOf x qual (gB st) (cO st) (aQ st) .none kV doc pm an eU ct) ⟨us,[]⟩=pure (ps.zip us)):tL K fd ps []:=by
 obtain⟨oc,od,kV,doc,pm,an,eU,ct,pz,rfl,lk,jG⟩:=F.ex;exact .all (h kV doc pm an eU ct)
theorem Nb {x qual:Str}{st:Stmt}{f:Addr}{oc:Value}{od an:Option Addr}{pz:Array (Option Value)}{kV doc pm eU ct:Value}(l:K.lookup f=some ⟨oc,od,.func (PySem.W.fnOf x qual (gB st) (cO st) (aQ st) .none kV doc pm an eU ct),pz⟩)
  (c:PySem.W.codeIn K eU qual=true) (k:PySem.W.keepIn K (.ref f)=true):Oz K x qual st f (PySem.W.fnOf x qual (gB st) (cO st) (aQ st) .none kV doc pm an eU ct):=⟨⟨oc,od,kV,doc,pm,an,eU,ct,pz,rfl,l,c⟩,k⟩
end
def aV (H H':Hp):Prop:=∀b o,H b=some o->H' b=some o
theorem aV.refl (H:Hp):aV H H:=λ_ _ h=>h
theorem aV.trans (a:aV H H1)(b:aV H1 H2):aV H H2:=λc o h=>b c o (a c o h)
theorem aV.free (e:aV H H')(h:H' l=Option.none):H l=Option.none:=by
 cases q:H l with
 |none=>rfl
 |some o=>
  rw[e l o q]at h;cases h
theorem aV.seq {K:PySem.W.Frag}{H H':Hp}{a:Addr}{xs:List V}(e:aV H H')(h:iP K H a xs):iP K H' a xs:=by
 rcases h with (h|⟨o,h⟩)|h
 ·exact .inl (.inl (e _ _ h))
 ·exact .inl (.inr ⟨o,e _ _ h⟩)
 ·exact .inr h
section
variable {κ:Type}[DecidableEq κ]
noncomputable def kj (aI:List (κ×V))(k:κ):Option V:=(aI.find? λkv=>decide (kv.1=k)).map (·.2)
def mw (aI:List (κ×V))(k:κ)(v:V):List (κ×V) :=
 if(aI.any λkv=>decide (kv.1=k))=true then aI.map (λkv=>if kv.1=k then (kv.1,v)else kv)else aI++[(k,v)]
theorem mz {p:κ×V}{r:List (κ×V)}{k:κ}(e:p.1=k):kj (p::r) k=some p.2:=by simp[kj,List.find?_cons,e]
theorem m4 {p:κ×V}{r:List (κ×V)}{k:κ}(e:¬p.1=k):kj (p::r) k=kj r k:=by simp[kj,List.find?_cons,e]
theorem xU (k:κ):∀aI:List (κ×V),(aI.any λkv=>decide (kv.1=k))=(kj aI k).isSome
 |[]=>rfl
 |p::r=>by
  rw[List.any_cons];by_cases e:p.1=k
  ·simp only[mz e,decide_eq_true e,Bool.true_or,Option.isSome_some]
  ·rw[m4 e,decide_eq_false e,Bool.false_or];exact xU k r
theorem k6 (aI:List (κ×V))(k:κ)(v:V):(mw aI k v).length<=aI.length+1:=by
 unfold mw;split
 ·rw[vI];omega
 ·rw[uZ,vE,List.length_nil];omega
theorem p6.isSome_eq (r:p6 o u):o.isSome=u.isSome:=by
 cases o with
 |none=>cases u with
  |none=>rfl
  |some _=>exact(show False from r).elim
 |some _=>cases u with
  |none=>exact(show False from r).elim
  |some _=>rfl
theorem p6.getD (r:p6 o u)(rd:ba d d'):ba (o.getD d) (u.getD d'):=by
 cases o with
 |none=>cases u with
  |none=>exact rd
  |some _=>exact(show False from r).elim
 |some _=>cases u with
  |none=>exact(show False from r).elim
  |some _=>exact r
theorem KV.val {aI:List (κ×V)}{vs:List (κ×Value)}(r:KV aI vs)(k:κ):p6 (kj aI k) (valueAt vs k):=by
 unfold KV at r;induction r with
 |nil=>exact True.intro
 |@cons p q ps qs h t ih=>
  obtain⟨h1,h2⟩:=h;by_cases e:p.1=k
  ·have e':q.1=k:=h1.symm.trans e;have b:valueAt (q::qs) k=some q.2:=by simp[valueAt,List.find?_cons,e']
   rw[mz e,b];exact h2
  ·have e':¬q.1=k:=λz=>e (h1.trans z);have b:valueAt (q::qs) k=valueAt qs k:=by simp[valueAt,List.find?_cons,e']
   rw[m4 e,b];exact ih
theorem KV.any (r:KV aI vs)(k:κ):(aI.any λkv=>decide (kv.1=k))=vs.any λkv=>decide (kv.1=k):=by
 unfold KV at r;induction r with
 |nil=>rfl
 |cons h t ih=>rw[List.any_cons,List.any_cons,ih,h.1]
theorem KV.repl (r:KV aI vs)(k:κ)(ry:ba y u):
  KV (aI.map λkv=>if kv.1=k then (kv.1,y)else kv) (vs.map λkv=>if kv.1=k then (kv.1,u)else kv):=by
 unfold KV at r ⊢;induction r with
 |nil=>exact .nil
 |@cons p q ps qs h t ih=>
  rw[uY,uY];refine .cons ?_ ih;obtain⟨h1,h2⟩:=h;by_cases e:p.1=k
  ·rw[if_pos e,if_pos (h1.symm.trans e)];exact⟨h1,ry⟩
  ·rw[if_neg e,if_neg (λz=>e (h1.trans z))];exact⟨h1,h2⟩
theorem KV.put (r:KV aI vs)(k:κ)(ry:ba y u):KV (mw aI k y) (stored vs k u):=by
 unfold mw stored;rw[r.any k];by_cases e:(vs.any λkv=>decide (kv.1=k))=true
 ·rw[if_pos e,if_pos e];exact r.repl k ry
 ·rw[if_neg e,if_neg e];exact Paired.snoc r ⟨rfl,ry⟩
theorem KV.length (r:KV aI vs):aI.length=vs.length:=Paired.length r
end
theorem tT (r:ba (kV k) u):(cw P w).is k u=true:=by
 cases k with
 |inl i=>obtain⟨t,e⟩:=(show ∃t,u=Value.int i t from r);subst e;exact xK P w i t
 |inr x=>obtain⟨t,e⟩:=(show ∃t,u=Value.str x t from r);subst e;exact xL P w x t
theorem tU:∀ {ks:List cA}{us:List Value},aX (ks.map kV) us->ItemsAre (cw P w) ks us
 |[],_,r=>by rw[List.map_nil]at r;cases r;exact .nil
 |k::ks,_,r=>by
  rw[uY]at r;cases r with
  |cons h t=>exact .cons (tT h) (tU t)
abbrev KT (H:Hp):List (List cA×V)->List (List cA×Addr×Value)->Prop:=Paired λp q=>p.1=q.1/\H q.2.1=some (.tup (p.1.map kV))/\ba p.2 q.2.2
theorem KT.val {H:Hp}{aI:List (List cA×V)}{xs:List (List cA×Addr×Value)}(r:KT H aI xs)(k:List cA):p6 (kj aI k) ((atKey xs k).map (·.2)):=by
 induction r with
 |nil=>exact True.intro
 |@cons p q ps qs h t ih=>
  obtain⟨h1,_,h2⟩:=h;by_cases e:p.1=k
  ·have e':q.1=k:=h1.symm.trans e;have b:atKey (q::qs) k=some q.2:=by simp[atKey,List.find?_cons,e']
   rw[mz e,b];exact h2
  ·have e':¬q.1=k:=λz=>e (h1.trans z);have b:atKey (q::qs) k=atKey qs k:=by simp[atKey,List.find?_cons,e']
   rw[m4 e,b];exact ih
theorem KT.repl (r:KT H aI xs)(k:List cA)(ry:ba y u):
  KT H (aI.map λkv=>if kv.1=k then (kv.1,y)else kv) (xs.map (putAt k u)):=by
 induction r with
 |nil=>exact .nil
 |@cons p q ps qs h t ih=>
  rw[uY,uY];refine .cons ?_ ih;obtain⟨h1,h2,h3⟩:=h;unfold putAt;by_cases e:p.1=k
  ·rw[if_pos e,if_pos (h1.symm.trans e)];exact⟨h1,h2,ry⟩
  ·rw[if_neg e,if_neg (λz=>e (h1.trans z))];exact⟨h1,h2,h3⟩
theorem KT.put (r:KT H aI xs)(k:List cA)(hb:H b=some (.tup (k.map kV)))(ry:ba y u):
  KT H (mw aI k y) (storedH xs k b u):=by
 have e:(aI.any λkv=>decide (kv.1=k))=(atKey xs k).isSome:=by
  rw[xU,(r.val k).isSome_eq,Option.isSome_map]
 unfold mw storedH;rw[e];by_cases q:(atKey xs k).isSome=true
 ·rw[if_pos q,if_pos q];exact r.repl k ry
 ·rw[if_neg q,if_neg q];exact Paired.snoc r ⟨rfl,hb,ry⟩
theorem KT.keeps (r:KT H aI xs)(ht:∀b ys,H b=some (.tup ys)->H' b=some (.tup ys)):KT H' aI xs :=
 Paired.mapP r λ_ _ z=>⟨z.1,ht _ _ z.2.1,z.2.2⟩
section
variable {P:Program}{w:World}{H:Hp}{h:Heap}{a:Addr}
theorem Lo (ok:lz P w H h)(e:Rd H a u):bR P w H h a u:=e.ok ok
theorem A5 (ok:lz P w H h)(e:H a=some (.dK aI ob)):h.get? a=some ob:=And.left (show bR P w H h a (.dK aI ob)from ok a _ e)
theorem xV (ok:lz P w H h)(e:Rd H a (.dK aI ob)):aI.length<=sizeLine/\(a == sysModules)=false/\∃vs,KV aI vs/\h.DictOf (cw P w) a vs :=
 And.right (show bR P w H h a (.dK aI ob)from Lo ok e)
theorem oF (ok:lz P w H h)(e:H a=some (.dK aI ob)):aI.length<=sizeLine/\(a == sysModules)=false/\∃vs,KV aI vs/\h.DictOf (cw P w) a vs:=xV ok (.inl e)
theorem qc (ok:lz P w H h)(e:H a=some (.tup (ks.map kV))):(tupleKind (cw P w)).is h ks a:=by
 obtain⟨_,its,r,o,h1,h2,n,h3⟩:=(show bR P w H h a (.tup (ks.map kV))from ok a _ e);exact⟨o,its.toArray,n,h1,h2,h3,by simpa using tU r⟩
theorem xW (ok:lz P w H h)(e:Rd H a (.dT aI)):aI.length<=sizeLine/\(a == sysModules)=false /\
  ∃xs,KT H aI xs/\h.DictOfH (tupleKind (cw P w)) a xs:=by
 obtain⟨z,y,xs,r,o,es,ep,h1,h2,h3,h4,h5⟩:=(show bR P w H h a (.dT aI)from Lo ok e);refine⟨z,y,xs,r,o,es,ep,h1,h2,h3,h4,λx hx=>?_,h5⟩;have all:∀ {l:List (List cA×V)}{m:List (List cA×Addr×Value)},KT H l m->∀x∈m,(tupleKind (cw P w)).is h x.1 x.2.1:=by
  intro l m q;induction q with
  |nil=>intro x hx;exact nomatch hx
  |@cons p q ps qs hq t ih=>
   intro x hx;rcases vP hx with e|hx
   ·subst e;exact qc ok (by rw[←hq.1];exact hq.2.1)
   ·exact ih x hx
 exact all r x hx
theorem Qu (ok:lz P w H h)(e:H a=some (.dT aI)):aI.length<=sizeLine/\(a == sysModules)=false /\
  ∃xs,KT H aI xs/\h.DictOfH (tupleKind (cw P w)) a xs:=xW ok (.inl e)
end
def xX (H:Hp)(a:Addr)(y:V)(r:Option V):Prop :=
 (∃aI k ob,Rd H a (.dK aI ob)/\y=kV k/\r=kj aI k)∨∃aI k b,Rd H a (.dT aI)/\y=.ref b/\H b=some (.tup (k.map kV))/\r=kj aI k
def Qv (H:Hp)(a:Addr)(y v:V)(Q:Hp->Prop):Prop :=
 (∃aI k ob,H a=some (.dK aI ob)/\y=kV k/\aI.length<sizeLine/\∀Uz,Q (upd H a (.dK (mw aI k v) Uz))) ∨
 ∃aI k b,H a=some (.dT aI)/\y=.ref b/\H b=some (.tup (k.map kV))/\aI.length<sizeLine/\Q (upd H a (.dT (mw aI k v)))
theorem xX.t (e:H a=some (.dT aI))(eb:H b=some (.tup (k.map kV))):xX H a (.ref b) (kj aI k):=.inr ⟨aI,k,b,.inl e,rfl,eb,rfl⟩
section
variable {X:Cx}{ae:List (Addr×Obj)}{σ:St}{H:Hp}{s:Shared}{a:Addr}{y v:V}{u r:Value}{o:Option V}{A:Around}{E:Value->Shared->Prop}
theorem Inv.big (I:Inv X ae σ H s):sysModules<s.heap.objs.size:=by
 have h:mainGlobals<s.heap.objs.size:=(I.mod.glob.keeps I.bk).lt;exact Nat.lt_trans (by decide) h
theorem T1 (hu:A.units+1<cLine)(I:Inv X ae σ H s)(g:xX H a y o)(ry:ba y u)(h:∀s',Inv X ae σ H s'->Q (.bool o.isSome) s'):
  wpAny (model X.prog X.w) A (compareOp .In u (.ref a)) Q E s:=by
 rcases g with⟨aI,k,ob,e,ey,l⟩|⟨aI,k,b,e,ey,eb,l⟩
 ·subst ey;obtain⟨z,hd,vs,sT,dd⟩:=xV I.hok e;refine wpAny_in_of (tT ry) hd dd.mapOf ?_;rw[←(sT.val k).isSome_eq,←l];exact h _ (I.tok _)
 ·subst ey;cases (show u=Value.ref b from ry)
  obtain⟨z,hd,xs,sT,dd⟩:=xW I.hok e;refine wpAny_in_heap (tupleKind_room_in1 hu) (qc I.hok eb) hd dd ?_;have q:=(sT.val k).isSome_eq;rw[Option.isSome_map]at q;rw[←q,←l];exact h _ (I.tok _)
theorem Jc (hu:A.units+1<cLine)(I:Inv X ae σ H s)(g:xX H a y o)(ry:ba y u)(h:∀s',Inv X ae σ H s'->Q (.bool (!o.isSome)) s'):
  wpAny (model X.prog X.w) A (compareOp .NotIn u (.ref a)) Q E s:=by
 rcases g with⟨aI,k,ob,e,ey,l⟩|⟨aI,k,b,e,ey,eb,l⟩
 ·subst ey;obtain⟨z,hd,vs,sT,dd⟩:=xV I.hok e;refine wpAny_notIn_of (tT ry) hd dd.mapOf ?_;rw[←(sT.val k).isSome_eq,←l];exact h _ (I.tok _)
 ·subst ey;cases (show u=Value.ref b from ry)
  obtain⟨z,hd,xs,sT,dd⟩:=xW I.hok e;refine wpAny_notIn_heap (tupleKind_room_in1 hu) (qc I.hok eb) hd dd ?_;have q:=(sT.val k).isSome_eq;rw[Option.isSome_map]at q;rw[←q,←l];exact h _ (I.tok _)
theorem wt (I:Inv X ae σ H s)(mu:PD (H a))(hs:Heap.SameBut a s.heap h')(he:∃q,h'.get? a=some q)(new:bR X.prog X.w (upd H a ob) h' a ob):
  Inv X ae σ (upd H a ob) { s with heap:=h',toks:=t' } :=
 I.write (x:=a) (e:=a) mu (.inl rfl) (λb q hb z=>(hs.2 b hb).trans z) he new
theorem Fp (z:aI.length<=sizeLine)(hd:(a == sysModules)=false)(sT:KV aI vs)(dd:h'.DictOf (cw P w) a vs)(hg:h'.get? a=some ob):
  bR P w H' h' a (.dK aI ob):=⟨hg,z,hd,vs,sT,dd⟩
theorem D6 (hu:A.units+1<cLine)(I:Inv X ae σ H s)(g:Qv H a y v R)(ry:ba y u)(rv:ba v r)(h:∀H' s',R H'->Inv X ae σ H' s'->Q () s'):
  wpAny (model X.prog X.w) A (setItem (.ref a) u r) Q E s:=by
 rcases g with⟨aI,k,ob,e,ey,l,eH⟩|⟨aI,k,b,e,ey,eb,l,eH⟩
 ·subst ey;obtain⟨z,hd,vs,sT,dd⟩:=oF I.hok e;have hz:vs.length<=sizeLine:=by rw[←sT.length];exact z
  have hl:(mw aI k v).length<=sizeLine:=by have:=k6 aI k v;omega
  refine wpAny_setItem_pairs (hsz:=hz) (tT ry) dd λh' KQ hs=>?_;obtain⟨q,hq⟩:∃q,h'.get? a=some q:=let ⟨q,_,_,hq,_⟩:=KQ;⟨q,hq⟩;exact h _ _ (eH q) (wt I (by rw[e];exact True.intro) hs ⟨q,hq⟩ (Fp hl hd (sT.put k rv) KQ hq))
 ·subst ey;cases (show u=Value.ref b from ry)
  obtain⟨z,hd,xs,sT,dd⟩:=Qu I.hok e;have hz:xs.length<=sizeLine:=by rw[←Paired.length sT];exact z
  have hl:(mw aI k v).length<=sizeLine:=by have:=k6 aI k v;omega
  refine wpAny_setItem_heap (hsz:=hz) (tupleKind_room_in1 hu) (qc I.hok eb) dd λh' KQ hs=>h _ _ eH ?_;obtain⟨q,es,ep,hq,h2,h3,h4,_,h5⟩:=KQ;refine wt I (by rw[e];exact True.intro) hs ⟨q,hq⟩ ⟨hl,hd,_,(sT.put k eb rv).keeps λc ys ec=>?_,q,es,ep,hq,h2,h3,h4,h5⟩;rw[aK (PB ec e (λz=>nomatch z))];exact ec
end
def T2 (ty td:TE):TE:=λσ H Q=>ty σ H λy H1=>td σ H1 λx H2=>∃a o,x=.ref a/\xX H2 a y o/\Q (.bl o.isSome) H2
def Jd (ty td:TE):TE:=λσ H Q=>ty σ H λy H1=>td σ H1 λx H2=>∃a o,x=.ref a/\xX H2 a y o/\Q (.bl (!o.isSome)) H2
def BI (td ty tv:TE):TS:=λD σ H=>tv σ H λv H1=>td σ H1 λx H2=>ty σ H2 λy H3=>∃a,x=.ref a/\Qv H3 a y v (D.nx σ)
section
variable {X:Cx}{o i e value:Expr}{pos zW E9:Pos}{td ty tv:TE}
theorem Nc (hu:X.A.units+1<cLine)(hi:PE X i ty)(ho:PE X o td):PC X .In i o (T2 ty td):=by
 intro ae s σ H Q I h;refine cY (hi ae s σ H _ I h) λiv s1 ⟨y,H1,I1,ry,q1⟩=>cY (ho ae s1 σ H1 _ I1 q1) λu s2 ⟨x,H2,I2,rx,a,ov,ex,g,q2⟩=>?_;subst ex;obtain rfl:u=Value.ref a:=rx;exact T1 hu I2 g ry λs3 I3=>⟨.bl ov.isSome,H2,I3,rfl,q2⟩
theorem D7 (hu:X.A.units+1<cLine)(hi:PE X i ty)(ho:PE X o td):PC X .NotIn i o (Jd ty td):=by
 intro ae s σ H Q I h;refine cY (hi ae s σ H _ I h) λiv s1 ⟨y,H1,I1,ry,q1⟩=>cY (ho ae s1 σ H1 _ I1 q1) λu s2 ⟨x,H2,I2,rx,a,ov,ex,g,q2⟩=>?_;subst ex;obtain rfl:u=Value.ref a:=rx;exact Jc hu I2 g ry λs3 I3=>⟨.bl (!ov.isSome),H2,I3,rfl,q2⟩
theorem wu (hu:X.A.units+1<cLine)(ho:PE X o td)(hi:PE X i ty)(hv:PE X value tv)(hs:swapsWith value (some (.Subscript o i zW)) pos.line X.env=pure false):
  PS X (.Assign [.Subscript o i zW] value pos) (BI td ty tv):=by
 intro ae s σ H D I h;refine wpAny_Assign_Subscript (cY (hv ae s σ H _ I h) λr s1 ⟨v,H1,I1,rv,q1⟩=>cY (ho ae s1 σ H1 _ I1 q1) λu s2 ⟨x,H2,I2,rx,q2⟩=>cY (hi ae s2 σ H2 _ I2 q2) λiv s3 ⟨y,H3,I3,ry,a,ex,g⟩=>?_) hs;subst ex;obtain rfl:u=Value.ref a:=rx;exact D6 hu I3 g ry rv λH4 s4 q3 I4=>⟨σ,H4,I4,q3⟩
end
theorem xY (h:Heap)(hb:sysModules<h.objs.size):bR P w H (h.push { cls:=.type "dict",data:=.dict #[] }) h.objs.size (.dK [] { cls:=.type "dict",data:=.dict #[] }) :=
 ⟨vY _ rfl,uN _,beq_eq_false_iff_ne.mpr (Ne.symm (vS hb)),[],.nil,Heap.DictOf.new h⟩
theorem Fq (h:Heap)(hb:sysModules<h.objs.size):bR P w H (h.push { cls:=.type "dict",data:=.dict #[] }) h.objs.size (.dT []) :=
 ⟨uN _,beq_eq_false_iff_ne.mpr (Ne.symm (vS hb)),[],.nil,_,#[],0,vY _ rfl,⟨rfl,rfl,rfl⟩,rfl,rfl,List.nodup_nil⟩
def Fs:TE:=λ_ H Q=>∀p ob,H p=none->Q (.ref p) (upd H p (.dK [] ob))
def Ft:TE:=λ_ H Q=>∀p,H p=none->Q (.ref p) (upd H p (.dT []))
section
variable {X:Cx}{pos:Pos}
theorem Fu:PE X (.Dict [] [] pos) Fs:=λae s σ H Q I h=>
 wpAny_Dict_empty ⟨.ref s.heap.objs.size,_,I.laid (a:=s.heap.objs.size) (o:=.dK [] { cls:=.type "dict",data:=.dict #[] }) (t':=s.toks) (λ_ _ q=>vZ _ q) (vT _) (xY s.heap I.big),rfl,h _ _ (I.hok.fresh (vT _))⟩
theorem Fv:PE X (.Dict [] [] pos) Ft:=λae s σ H Q I h=>
 wpAny_Dict_empty ⟨.ref s.heap.objs.size,_,I.laid (a:=s.heap.objs.size) (o:=.dT []) (t':=s.toks) (λ_ _ q=>vZ _ q) (vT _) (Fq s.heap I.big),rfl,h _ (I.hok.fresh (vT _))⟩
end
structure M1 (X:Cx)(o:Expr)(m:Str)(dM:Pos)(e:Expr)(cM:Pos):Prop where
 base:attributeBase o m X.env (eval o X.env)=eval o X.env
 few:((backTo cM (starEach [e] X.env)).all (λx=>!x.1) && (backToKw cM (keywordEach [] X.env)).all (λx=>x.1.isSome)
  && decide (([e]:List Expr).length+([]:List Keyword).length+(if([]:List Keyword).isEmpty then 0 else 1)<30))=true
 line:(dM.endLine == cM.line)=true
 trees:backTo cM (starEach [e] X.env)=[(false,eval e X.env)]
def V9 (H:Hp)(a:Addr):Prop:=(∃aI ob,Rd H a (.dK aI ob))∨∃aI,Rd H a (.dT aI)
theorem Nd (I:Inv X ae σ H s)(d:V9 H a):
  s.TypeIs (.ref a) "dict"/\(∀b,Value.ref a=.ref b->∃ob,s.heap.get? b=some ob/\ob.dict=none)/\(a == sysModules)=false:=by
 rcases d with⟨aI,Wd,e⟩|⟨aI,e⟩
 ·obtain⟨_,hd,vs,_,dd⟩:=xV I.hok e;refine⟨dd.typeIs,λb q=>?_,hd⟩;cases q
  obtain⟨ob,_,_,h1,h2,_⟩:=dd;exact⟨ob,h1,h2.2.1⟩
 ·obtain⟨_,hd,xs,_,dd⟩:=xW I.hok e;refine⟨dd.typeIs,λb q=>?_,hd⟩;cases q
  obtain⟨ob,_,_,h1,h2,_⟩:=dd;exact⟨ob,h1,h2.2.1⟩
section
variable {X:Cx}{ae:List (Addr×Obj)}{σ:St}{H:Hp}{s:Shared}{a:Addr}{y d:V}{u r:Value}{o:Option V}{A:Around}{E:Value->Shared->Prop}
theorem Nf (hu:A.units+1<cLine)(I:Inv X ae σ H s)(g:xX H a y o)(ry:ba y u)(h:∀w' s',Inv X ae σ H s'->ba (o.getD .non) w'->Q w' s'):
  wpAny (model X.prog X.w) A (call (.builtin "dict.get") [.ref a,u]) Q E s:=by
 rcases g with⟨aI,k,ob,e,ey,l⟩|⟨aI,k,b,e,ey,eb,l⟩
 ·subst ey;obtain⟨z,hd,vs,sT,dd⟩:=xV I.hok e;refine call_meetsIn PySem.F.slot_dict_get dd.typeIs PySem.F.entry_dict_get (PySem.F.args_dict_get_2 _ _) (meets_dict_get (cw X.prog X.w) a (tT ry) hd) ⟨_,dd.mapOf,h _ _ (I.tok _) ?_⟩;rw[l];exact(sT.val k).getD rfl
 ·subst ey;cases (show u=Value.ref b from ry)
  obtain⟨z,hd,xs,sT,dd⟩:=xW I.hok e;refine call_meetsIn PySem.F.slot_dict_get dd.typeIs PySem.F.entry_dict_get (PySem.F.args_dict_get_2 _ _) (meetsH_dict_get (tupleKind (cw X.prog X.w)) a b hd) ⟨tupleKind_room_in1 hu,k,xs,qc I.hok eb,dd,h _ _ (I.tok _) ?_⟩;rw[l];exact(sT.val k).getD rfl
end
def Ng (td ty:TE):TE:=λσ H Q=>td σ H λx H1=>∃a,x=.ref a/\V9 H1 a/\ty σ H1 λy H2=>∃o,xX H2 a y o/\Q (o.getD .non) H2
section
variable {X:Cx}{o e f:Expr}{dM cM:Pos}{td ty tx:TE}
theorem xZ (hu:X.A.units+1<cLine)(ho:PE X o td)(he:PE X e ty)(m:M1 X o "get" dM e cM):PE X (.Call (.Attribute o "get" dM) [e] [] cM) (Ng td ty):=by
 intro ae s σ H Q I h;refine wpAny_Call_method m.base m.few m.line PySem.F.plainAttrs_dict PySem.F.slot_dict_get PySem.F.type_dict_get (cY (ho ae s σ H _ I h) λu s1 ⟨x,H1,I1,rx,a,ex,d,q1⟩=>?_);subst ex;obtain rfl:u=Value.ref a:=rx;obtain⟨t1,t2,_⟩:=Nd I1 d;refine⟨t1,t2,?_⟩;rw[m.trees];refine Calls.callWith_builtin rfl (Calls.evalArgs_plain (Calls.spliced_cons (cY (he ae s1 σ H1 _ I1 q1) λiv s2 ⟨y,H2,I2,ry,ov,g,q2⟩=>Calls.spliced_nil ?_)));exact Nf hu I2 g ry λw' s3 I3 Rk=>⟨_,H2,I3,Rk,q2⟩
end
end L2
namespace DL
open PySem L2
set_option linter.all false
abbrev St:=L2.St
inductive D where
 |non|bl (b:Bool)|int (i:Int)|str (x:Str)|ty (n:String)|tup (ds:List D)|lst (ds:List D)
  |dk (ks:List cA) (vs:List D)|dt (ks:List (List cA)) (vs:List D)
mutual
inductive Is (K:PySem.W.Frag)(H:Hp):V->D->Prop where
 |non:Is K H .non .non
 |bl (b:Bool):Is K H (.bl b) (.bl b)
 |int (i:Int):Is K H (.int i) (.int i)
 |str (x:Str):Is K H (.str x) (.str x)
 |ty (n:String):Is K H (.ty n) (.ty n)
 |tup {a:Addr}{vs:List V}{ds:List D}(h:jo K H a vs) (hs:IsL K H vs ds):Is K H (.ref a) (.tup ds)
 |lst {a:Addr}{vs:List V}{ds:List D}(h:iP K H a vs) (hs:IsL K H vs ds):Is K H (.ref a) (.lst ds)
 |dk {a:Addr}{ks:List cA}{vs:List V}{ds:List D}{ob:Obj}(h:H a=some (.dK (ks.zip vs) ob)) (hl:ks.length=vs.length) (hs:IsL K H vs ds):Is K H (.ref a) (.dk ks ds)
 |dt {a:Addr}{ks:List (List cA)}{vs:List V}{ds:List D}(h:H a=some (.dT (ks.zip vs))) (hl:ks.length=vs.length) (hs:IsL K H vs ds):Is K H (.ref a) (.dt ks ds)
inductive IsL (K:PySem.W.Frag)(H:Hp):List V->List D->Prop where
 |nil:IsL K H [] []
 |cons {v:V}{d:D}{vs:List V}{ds:List D}(h:Is K H v d) (hs:IsL K H vs ds):IsL K H (v::vs) (d::ds)
end
mutual
def bg:D->Bool
 |.lst _=>false
 |.dk _ _=>false
 |.dt _ _=>false
 |.tup ds=>b9 ds
 |_=>true
def b9:List D->Bool
 |[]=>true
 |d::ds=>bg d && b9 ds
end
@[simp] theorem OP:bg .non=true:=by simp only[bg]
@[simp] theorem Qw (b:Bool):bg (.bl b)=true:=by simp only[bg]
@[simp] theorem OQ (i:Int):bg (.int i)=true:=by simp only[bg]
@[simp] theorem OR (x:Str):bg (.str x)=true:=by simp only[bg]
@[simp] theorem Qx (x:String):bg (.ty x)=true:=by simp only[bg]
@[simp] theorem OS (ds:List D):bg (.tup ds)=b9 ds:=by rw[bg]
@[simp] theorem OT (ds:List D):bg (.lst ds)=false:=by rw[bg]
@[simp] theorem Qy (ks:List cA)(ds:List D):bg (.dk ks ds)=false:=by rw[bg]
@[simp] theorem Qz (ks:List (List cA))(ds:List D):bg (.dt ks ds)=false:=by rw[bg]
@[simp] theorem Nh:b9 []=true:=by rw[b9]
@[simp] theorem Lp (d:D)(ds:List D):b9 (d::ds)=(bg d && b9 ds):=by rw[b9]
section
variable {K:PySem.W.Frag}{H H':Hp}
mutual
theorem Is.keep (hT:∀a vs,jo K H a vs->jo K H' a vs)(hL:∀a vs,iP K H a vs->iP K H' a vs)(hK:∀a aI ob,H a=some (.dK aI ob)->H' a=some (.dK aI ob))(hM:∀a aI,H a=some (.dT aI)->H' a=some (.dT aI)):∀ {v:V}{d:D},Is K H v d->Is K H' v d
 |_,_,.non=>.non
 |_,_,.bl b=>.bl b
 |_,_,.int i=>.int i
 |_,_,.str x=>.str x
 |_,_,.ty x=>.ty x
 |_,_,.tup h hs=>.tup (hT _ _ h) (IsL.keep hT hL hK hM hs)
 |_,_,.lst h hs=>.lst (hL _ _ h) (IsL.keep hT hL hK hM hs)
 |_,_,.dk h hl hs=>.dk (hK _ _ _ h) hl (IsL.keep hT hL hK hM hs)
 |_,_,.dt h hl hs=>.dt (hM _ _ h) hl (IsL.keep hT hL hK hM hs)
theorem IsL.keep (hT:∀a vs,jo K H a vs->jo K H' a vs)(hL:∀a vs,iP K H a vs->iP K H' a vs)(hK:∀a aI ob,H a=some (.dK aI ob)->H' a=some (.dK aI ob))(hM:∀a aI,H a=some (.dT aI)->H' a=some (.dT aI)):∀ {vs:List V}{ds:List D},IsL K H vs ds->IsL K H' vs ds
 |_,_,.nil=>.nil
 |_,_,.cons h hs=>.cons (Is.keep hT hL hK hM h) (IsL.keep hT hL hK hM hs)
end
mutual
theorem Is.keepT (hT:∀a vs,jo K H a vs->jo K H' a vs):∀ {v:V}{d:D},Is K H v d->bg d=true->Is K H' v d
 |_,_,.non,_=>.non
 |_,_,.bl b,_=>.bl b
 |_,_,.int i,_=>.int i
 |_,_,.str x,_=>.str x
 |_,_,.ty x,_=>.ty x
 |_,_,.tup h hs,n=>.tup (hT _ _ h) (IsL.keepT hT hs (by simpa using n))
 |_,_,.lst h hs,n=>by simp at n
 |_,_,.dk h hl hs,n=>by simp at n
 |_,_,.dt h hl hs,n=>by simp at n
theorem IsL.keepT (hT:∀a vs,jo K H a vs->jo K H' a vs):∀ {vs:List V}{ds:List D},IsL K H vs ds->b9 ds=true->IsL K H' vs ds
 |_,_,.nil,_=>.nil
 |_,_,.cons h hs,n=>by
  simp at n;exact .cons (Is.keepT hT h n.1) (IsL.keepT hT hs n.2)
end
theorem bu (e:aV H H')(h:jo K H a xs):jo K H' a xs:=by
 rcases h with (h|⟨o,h⟩)|h
 ·exact .inl (.inl (e _ _ h))
 ·exact .inl (.inr ⟨o,e _ _ h⟩)
 ·exact .inr h
theorem Is.mono (h:Is K H v d)(e:aV H H'):Is K H' v d:=h.keep (λ_ _=>bu e) (λ_ _=>e.seq) (λ_ _ _ q=>e _ _ q) λ_ _ q=>e _ _ q
theorem IsL.mono (h:IsL K H v d)(e:aV H H'):IsL K H' v d:=h.keep (λ_ _=>bu e) (λ_ _=>e.seq) (λ_ _ _ q=>e _ _ q) λ_ _ q=>e _ _ q
theorem IsL.length:∀ {vs:List V}{ds:List D},IsL K H vs ds->vs.length=ds.length
 |_,_,.nil=>rfl
 |_,_,.cons _ t=>congrArg (· + 1) t.length
theorem IsL.get:∀ {vs:List V}{ds:List D}{i:Nat}{d:D},IsL K H vs ds->ds[i]? = some d->∃v,vs[i]? = some v/\Is K H v d
 |_,_,_,_,.nil,e=>by simp at e
 |_,_,0,_,.cons h _,e=>by simp at e;subst e;exact⟨_,rfl,h⟩
 |_,_,i+1,d,.cons _ t,e=>by
  obtain⟨u,h1,h2⟩:=t.get (i:=i) (d:=d) (by simpa using e);exact⟨u,by simpa using h1,h2⟩
theorem IsL.append:∀ {vs ws:List V}{ds es:List D},IsL K H vs ds->IsL K H ws es->IsL K H (vs++ws) (ds++es)
 |_,_,_,_,.nil,s=>s
 |_,_,_,_,.cons r t,s=>.cons r (t.append s)
theorem IsL.take:∀ {vs:List V}{ds:List D}(n:Nat),IsL K H vs ds->IsL K H (vs.take n) (ds.take n)
 |_,_,0,_=>by simpa using IsL.nil
 |_,_,_+1,.nil=>.nil
 |_,_,n+1,.cons r t=>.cons r (t.take n)
theorem IsL.drop:∀ {vs:List V}{ds:List D}(n:Nat),IsL K H vs ds->IsL K H (vs.drop n) (ds.drop n)
 |_,_,0,r=>r
 |_,_,_+1,.nil=>.nil
 |_,_,n+1,.cons _ t=>t.drop n
theorem IsL.set (h:Is K H v d):∀ {vs:List V}{ds:List D}(i:Nat),IsL K H vs ds->IsL K H (vs.set i v) (ds.set i d)
 |_,_,_,.nil=>.nil
 |_,_,0,.cons _ t=>.cons h t
 |_,_,i+1,.cons r t=>.cons r (IsL.set h i t)
theorem IsL.eraseIdx:∀ {vs:List V}{ds:List D}(i:Nat),IsL K H vs ds->IsL K H (vs.eraseIdx i) (ds.eraseIdx i)
 |_,_,_,.nil=>.nil
 |_,_,0,.cons _ t=>t
 |_,_,i+1,.cons r t=>.cons r (t.eraseIdx i)
theorem IsL.flat {vs:List V}{ns:List Int}(h:vs=ns.map V.int):IsL K H vs (ns.map D.int):=by
 subst h;induction ns with
 |nil=>exact .nil
 |cons n ns ih=>exact .cons (.int n) ih
end
structure Ext (B N H H':Hp):Prop where
 hh:aV H H'
 bn:aV B N
 nh:aV N H'
 new:∀a o,N a=some o->B a=some o∨H a=none
theorem Ext.refl (h:aV B H):Ext B B H H:=⟨.refl _,.refl _,h,λ_ _ e=>.inl e⟩
theorem Ext.trans (x:Ext B N H H1)(y:Ext N N2 H1 H2):Ext B N2 H H2 :=
 ⟨x.hh.trans y.hh,x.bn.trans y.bn,y.nh,λa o e=>(y.new a o e).elim (λq=>x.new a o q) λq=>.inr (x.hh.free q)⟩
theorem Ext.laid (h:aV B H)(hp:H p=none):Ext B (upd B p o) H (upd H p o):=by
 have hB:B p=none:=h.free hp;refine⟨λa u e=>?_,λa u e=>?_,λa u e=>?_,λa u e=>?_⟩
 ·rw[aK (λq=>by subst q;rw[hp]at e;cases e)];exact e
 ·rw[aK (λq=>by subst q;rw[hB]at e;cases e)];exact e
 ·by_cases q:a=p
  ·subst q;rw[aG]at e ⊢;exact e
  ·rw[aK q]at e ⊢;exact h _ _ e
 ·by_cases q:a=p
  ·subst q;exact .inr hp
  ·rw[aK q]at e;exact .inl e
theorem Ext.grow (h:aV B H)(hh:aV H H'):Ext B B H H':=⟨hh,.refl _,h.trans hh,λ_ _ e=>.inl e⟩
abbrev Env:=List (Option (D×Bool))
abbrev FE:=Env->Option (D×Bool)
abbrev FA:=Env->Option (List D)
abbrev FT:=Env->Option Bool
def OU (K:PySem.W.Frag)(H N:Hp)(v:V)(d:D):Prop:=∃(a:Addr)(vs:List V)(ds:List D),v=.ref a/\d=.lst ds/\H a=none/\N a=some (.lst vs)/\IsL K N vs ds
theorem OU.back (h:OU K H' N v d)(e:aV H H'):OU K H N v d:=let ⟨a,vs,ds,q,y,z,r⟩:=h;⟨a,vs,ds,q,y,e.free z,r⟩
noncomputable def m5:List Str:=["in_order","has_seal","is_first_death","bases_by"]
noncomputable def qd (x:Str):Str:=x ++ ".<locals>." ++ "<lambda>"
def Tb (K:PySem.W.Frag)(B:Hp):Prop:=∀x∈m5,∀c P,PySem.W.tabIn K x=some (c,P)->B P=some (.tbl (qd x))
theorem Tb.mono (h:Tb K B)(e:aV B B'):Tb K B':=λx hx c P q=>e _ _ (h x hx c P q)
structure fM (K:PySem.W.Frag)(B:Hp)(σ:St)(ρ:Env):Prop where
 tb:Tb K B
 at':∀(i:Nat)(d:D)(b:Bool),ρ[i]? = some (some (d,b))->∃v,σ[i]? = some (some v)/\Is K B v d
theorem fM.mono (h:fM K B σ ρ)(e:aV B B'):fM K B' σ ρ:=⟨h.tb.mono e,λi d b q=>let ⟨v,h1,h2⟩:=h.at' i d b q;⟨v,h1,h2.mono e⟩⟩
def Fin (K:PySem.W.Frag)(B H:Hp)(d:D)(b:Bool)(Q:VK):Prop:=∀(v:V)(H' N:Hp),Ext B N H H'->Is K N v d->(b=true->OU K H N v d)->Q v H'
def tD (K:PySem.W.Frag)(f:FE):TE:=λσ H Q=>∃(B:Hp)(ρ:Env)(d:D)(b:Bool),aV B H/\fM K B σ ρ/\f ρ=some (d,b)/\Fin K B H d b Q
def D8 (K:PySem.W.Frag)(f:FT):TT:=λσ H Q=>∃(B:Hp)(ρ:Env)(c:Bool),aV B H/\fM K B σ ρ/\f ρ=some c/\∀H',aV H H'->Q c H'
def OV (K:PySem.W.Frag)(f:FA):TA:=λσ H Q=>∃(B:Hp)(ρ:Env)(ds:List D),aV B H/\fM K B σ ρ/\f ρ=some ds/\∀(vs:List V)(H' N:Hp),Ext B N H H'->IsL K N vs ds->Q vs H'
def rD (K:PySem.W.Frag)(op:D->D->Option (D×Bool)):R2:=λx y H Q=>∃(B:Hp)(dx dy d:D)(b:Bool),aV B H/\Is K B x dx/\Is K B y dy/\op dx dy=some (d,b)/\Fin K B H d b Q
def T3 (K:PySem.W.Frag)(op:D->Option (D×Bool)):V->Hp->VK->Prop:=λx H Q=>∃(B:Hp)(dx d:D)(b:Bool),aV B H/\Is K B x dx/\op dx=some (d,b)/\Fin K B H d b Q
def A6 (K:PySem.W.Frag)(op:List D->Option (D×Bool)):List V->Hp->VK->Prop:=λxs H Q=>∃(B:Hp)(ds:List D)(d:D)(b:Bool),aV B H/\IsL K B xs ds/\op ds=some (d,b)/\Fin K B H d b Q
theorem Fin.one (h:Fin K B H d false Q)(s:aV B H)(i:Is K B v d):Q v H:=h v H B (.refl s) i (by simp)
theorem Fin.into (h:Fin K B H d b Q)(x:Ext B N H H1):Fin K N H1 d b Q:=λv H' N' y i fr=>h v H' N' (x.trans y) i λe=>(fr e).back x.hh
@[simp] noncomputable def fC (d:D):FE:=λ_=>some (d,false)
@[simp] noncomputable def ai (i:Nat):FE:=λρ=>match ρ[i]? with|some (some (d,_))=>some (d,false)|_=>none
@[simp] noncomputable def f2 (op:D->D->Option (D×Bool))(fa fb:FE):FE:=λρ=>(fa ρ).bind λx=>(fb ρ).bind λy=>op x.1 y.1
@[simp] noncomputable def f1 (op:D->Option (D×Bool))(fa:FE):FE:=λρ=>(fa ρ).bind λx=>op x.1
@[simp] noncomputable def aj:FA:=λ_=>some []
@[simp] noncomputable def af (fa:FE)(fr:FA):FA:=λρ=>(fa ρ).bind λx=>(fr ρ).bind λxs=>some (x.1::xs)
@[simp] noncomputable def fA (op:List D->Option (D×Bool))(fa:FA):FE:=λρ=>(fa ρ).bind op
theorem Ni (h:tD K (ai i) σ H Q):∃v,σ[i]? = some (some v)/\Q v H:=by
 obtain⟨B,ρ,d,b,s,r,e,q⟩:=h;unfold ai at e;split at e
 ·rename_i d' b' e';cases e
  obtain⟨v,h1,h2⟩:=r.at' i _ _ e';exact⟨v,h1,q.one s h2⟩
 ·cases e
theorem Je (h:tD K (f2 op fa fb) σ H Q):tD K fa σ H λx H1=>tD K fb σ H1 λy H2=>rD K op x y H2 Q:=by
 obtain⟨B,ρ,d,b,s,r,e,q⟩:=h;obtain⟨x,ex,e⟩:=oX e;obtain⟨y,ey,e⟩:=oX e;refine⟨B,ρ,x.1,x.2,s,r,ex,λv H1 N x1 i1 _=>⟨N,ρ,y.1,y.2,x1.nh,r.mono x1.bn,ey,λv2 H2 N2 x2 i2 _=>⟨N2,x.1,y.1,d,b,x2.nh,i1.mono x2.bn,i2,e,?_⟩⟩⟩;exact q.into (x1.trans x2)
theorem T4 (h:tD K (f1 op fa) σ H Q):tD K fa σ H λx H1=>T3 K op x H1 Q:=by
 obtain⟨B,ρ,d,b,s,r,e,q⟩:=h;obtain⟨x,ex,e⟩:=oX e;exact⟨B,ρ,x.1,x.2,s,r,ex,λv H1 N x1 i1 _=>⟨N,x.1,d,b,x1.nh,i1,e,q.into x1⟩⟩
theorem Jf (h:tD K (fA op fa) σ H Q):OV K fa σ H λxs H1=>A6 K op xs H1 Q:=by
 obtain⟨B,ρ,d,b,s,r,e,q⟩:=h;obtain⟨x,ex,e⟩:=oX e;exact⟨B,ρ,x,s,r,ex,λv H1 N x1 i1=>⟨N,x,d,b,x1.nh,i1,e,q.into x1⟩⟩
theorem Jg (h:OV K aj σ H Q):Q [] H:=by
 obtain⟨B,ρ,ds,s,r,e,q⟩:=h;cases e
 exact q [] H B (.refl s) .nil
theorem Fw (h:OV K (af fa fr) σ H Q):tD K fa σ H λx H1=>OV K fr σ H1 λxs H2=>Q (x::xs) H2:=by
 obtain⟨B,ρ,ds,s,r,e,q⟩:=h;obtain⟨x,ex,e⟩:=oX e;obtain⟨y,ey,e⟩:=oX e;cases e
 exact⟨B,ρ,x.1,x.2,s,r,ex,λv H1 N x1 i1 _=>⟨N,ρ,y,x1.nh,r.mono x1.bn,ey,λvs H2 N2 x2 i2=>q _ H2 N2 (x1.trans x2) (.cons (i1.mono x2.bn) i2)⟩⟩
@[simp] noncomputable def bo (f:FE):FT:=λρ=>match f ρ with|some (.bl c,_)=>some c|_=>none
@[simp] noncomputable def dS (f g:FT):FT:=λρ=>match f ρ with|some true=>g ρ|some false=>some false|none=>none
@[simp] noncomputable def jq (f g:FT):FT:=λρ=>match f ρ with|some true=>some true|some false=>g ρ|none=>none
@[simp] noncomputable def fJ (f:FT):FT:=λρ=>(f ρ).map (!·)
@[simp] noncomputable def ZY (c:FT)(f g:FE):FE:=λρ=>match c ρ with|some true=>f ρ|some false=>g ρ|none=>none
open Classical in
noncomputable def dU (H:Hp)(P:Addr->Prop):Hp:=λa=>if P a then none else H a
theorem cV (h:¬P a):dU H P a=H a:=by unfold dU;rw[if_neg h]
theorem A7 (h:P a):dU H P a=none:=by unfold dU;rw[if_pos h]
theorem qe (h:dU H P a=some o):¬P a/\H a=some o:=by
 by_cases q:P a
 ·rw[A7 q]at h;cases h
 ·rw[cV q]at h;exact⟨q,h⟩
theorem bU:aV (dU H P) H:=λ_ _ e=>(qe e).2
theorem eW (e:∀a o,H a=some o->¬P a->H' a=some o/\¬P' a):aV (dU H P) (dU H' P'):=λa o q=>by
 obtain⟨h1,h2⟩:=qe q;obtain⟨h3,h4⟩:=e a o h2 h1;rw[cV h4];exact h3
noncomputable def join (N N':Hp):Hp:=λa=>match N a with|some o=>some o|none=>N' a
theorem fm:aV N (join N N'):=λa o e=>by unfold join;rw[e]
theorem eK (e:N a=none):join N N' a=N' a:=by unfold join;rw[e]
def own (σ:St)(ρ:Env)(a:Addr):Prop:=∃(i:Nat)(d:D),ρ[i]? = some (some (d,true))/\σ[i]? = some (some (V.ref a))
inductive Bx (K:PySem.W.Frag)(C:Hp):HO->D->Prop where
 |lst {vs:List V}{ds:List D}(h:IsL K C vs ds):Bx K C (.lst vs) (.lst ds)
 |dk {ks:List cA}{vs:List V}{ds:List D}(hl:ks.length=vs.length) (h:IsL K C vs ds) {ob:Obj}:Bx K C (.dK (ks.zip vs) ob) (.dk ks ds)
 |dt {ks:List (List cA)}{vs:List V}{ds:List D}(hl:ks.length=vs.length) (h:IsL K C vs ds):Bx K C (.dT (ks.zip vs)) (.dt ks ds)
theorem Bx.mono (h:Bx K C o d)(e:aV C C'):Bx K C' o d:=by
 cases h with
 |lst h=>exact .lst (h.mono e)
 |dk hl h=>exact .dk hl (h.mono e)
 |dt hl h=>exact .dt hl (h.mono e)
theorem Bx.is (h:Bx K C o d)(e:C a=some o):Is K C (.ref a) d:=by
 cases h with
 |lst h=>exact .lst (iP.of e) h
 |dk hl h=>exact .dk e hl h
 |dt hl h=>exact .dt e hl h
structure eJ (K:PySem.W.Frag)(B0 H0 N H:Hp)(σ:St)(ρ:Env):Prop where
 bh:aV B0 H0
 tb:Tb K B0
 ext:Ext B0 N H0 H
 len:ρ.length=σ.length
 sh:∀(i:Nat)(d:D),ρ[i]? = some (some (d,false))->∃v,σ[i]? = some (some v)/\Is K (dU N (own σ ρ)) v d
 ow:∀(i:Nat)(d:D),ρ[i]? = some (some (d,true))->∃(a:Addr)(o:HO),σ[i]? = some (some (V.ref a))/\N a=some o/\H0 a=none/\Bx K (dU N (own σ ρ)) o d
 inj:∀(i j:Nat)(a:Addr)(d e:D),ρ[i]? = some (some (d,true))->ρ[j]? = some (some (e,true))->σ[i]? = some (some (V.ref a))->σ[j]? = some (some (V.ref a))->i=j
def A8 (K:PySem.W.Frag)(B0 H0 H:Hp)(σ:St)(ρ:Env):Prop:=∃N,eJ K B0 H0 N H σ ρ
section
variable {K:PySem.W.Frag}{B0 H0 N H H':Hp}{σ:St}{ρ:Env}
theorem eJ.owL (s:eJ K B0 H0 N H σ ρ)(i:Nat)(d:D)(q:ρ[i]? = some (some (.lst es,true)))(hd:d=.lst es:=by rfl):∃(a:Addr)(vs:List V)(ds:List D),d=.lst ds/\σ[i]? = some (some (V.ref a))/\N a=some (.lst vs)/\H0 a=none/\IsL K (dU N (own σ ρ)) vs ds:=by
 obtain⟨a,o,h1,h2,h3,h4⟩:=s.ow i _ q;cases h4 with
 |lst h4=>exact⟨a,_,es,hd,h1,h2,h3,h4⟩
def boxed:HO->Prop
 |.lst _|.dK _ _|.dT _=>True
 |_=>False
theorem Bx.boxed (h:Bx K C o d):boxed o:=by cases h<;>exact trivial
theorem eJ.owned (s:eJ K B0 H0 N H σ ρ)(h:own σ ρ a):∃o,(N a=some o/\boxed o)/\H0 a=none:=by
 obtain⟨i,d,h1,h2⟩:=h;obtain⟨a',o,h3,h4,h5,h6⟩:=s.ow i d h1;rw[h2]at h3;cases h3;exact⟨o,⟨h4,h6.boxed⟩,h5⟩
theorem eJ.rep (s:eJ K B0 H0 N H σ ρ):fM K N σ ρ:=⟨s.tb.mono s.ext.bn,λi d b q=>by
 cases b with
 |false=>obtain⟨v,h1,h2⟩:=s.sh i d q;exact⟨v,h1,h2.mono bU⟩
 |true=>
  obtain⟨a,o,h2,h3,_,h4⟩:=s.ow i d q;exact⟨_,h2,(h4.mono bU).is h3⟩⟩
noncomputable def m6 (ρ:Env):Env:=ρ.map λx=>match x with|some (d,false)=>some (d,false)|_=>none
theorem Fx {i:Nat}{d:D}{b:Bool}(h:(m6 ρ)[i]? = some (some (d,b))):b=false/\ρ[i]? = some (some (d,false)):=by
 unfold m6 at h;rw[vA]at h;cases e:ρ[i]? with
 |none=>rw[e]at h;cases h
 |some x=>
  rw[e]at h;match x,h with
  |some (d',false),h=>cases h;exact⟨rfl,rfl⟩
  |some (d',true),h=>cases h
  |none,h=>cases h
theorem eJ.tbC (s:eJ K B0 H0 N H σ ρ):Tb K (dU N (own σ ρ)):=λx hx c P q=>by
 have z:=s.tb.mono s.ext.bn x hx c P q;rw[cV]
 ·exact z
 ·intro y;obtain⟨o,⟨y,yb⟩,_⟩:=s.owned y;rw[z]at y;cases y;exact yb
theorem eJ.repH (s:eJ K B0 H0 N H σ ρ):fM K (dU N (own σ ρ)) σ (m6 ρ):=⟨s.tbC,λi d b q=>by
 obtain⟨rfl,q2⟩:=Fx q;exact s.sh i d q2⟩
theorem eJ.grow (s:eJ K B0 H0 N H σ ρ)(x:Ext N N' H H'):eJ K B0 H0 N' H' σ ρ:=by
 have c:aV (dU N (own σ ρ)) (dU N' (own σ ρ)):=eW λa o e q=>⟨x.bn a o e,q⟩;refine⟨s.bh,s.tb,s.ext.trans x,s.len,λi d q=>?_,λi d q=>?_,s.inj⟩
 ·obtain⟨v,h1,h2⟩:=s.sh i d q;exact⟨v,h1,h2.mono c⟩
 ·obtain⟨a,o,h2,h3,h4,h5⟩:=s.ow i d q;exact⟨a,o,h2,x.bn _ _ h3,h4,h5.mono c⟩
theorem eJ.growH (s:eJ K B0 H0 N H σ ρ)(x:Ext (dU N (own σ ρ)) N' H H'):eJ K B0 H0 (join N N') H' σ ρ/\aV N' (dU (join N N') (own σ ρ)):=by
 have x':Ext N (join N N') H H':=by
  refine⟨x.hh,fm,λa o e=>?_,λa o e=>?_⟩
  ·cases q:N a with
   |some u=>
    have:join N N' a=some u:=fm _ _ q;rw[this]at e;cases e;exact x.hh _ _ (s.ext.nh _ _ q)
   |none=>rw[eK q]at e;exact x.nh _ _ e
  ·cases q:N a with
   |some u=>
    have:join N N' a=some u:=fm _ _ q;rw[this]at e;cases e;exact .inl rfl
   |none=>
    rw[eK q]at e;rcases x.new a o e with z|z
    ·have:=bU _ _ z;rw[q]at this;cases this
    ·exact .inr z
 refine⟨s.grow x',λa o e=>?_⟩;rcases x.new a o e with z|z
 ·obtain⟨z1,z2⟩:=qe z;rw[cV z1];exact fm _ _ z2
 ·have hN:N a=none:=s.ext.nh.free z;have:¬own σ ρ a:=λq=>by obtain⟨vs,⟨q,_⟩,_⟩:=s.owned q;rw[hN]at q;cases q
  rw[cV this,eK hN];exact e
noncomputable def unown (ρ:Env):Env:=ρ.map λx=>x.map λy=>(y.1,false)
theorem kY {i:Nat}{d:D}{b:Bool}(h:(unown ρ)[i]? = some (some (d,b))):b=false/\∃c,ρ[i]? = some (some (d,c)):=by
 unfold unown at h;rw[vA]at h;cases e:ρ[i]? with
 |none=>rw[e]at h;cases h
 |some x=>
  rw[e]at h;match x,h with
  |some (d',c),h=>cases h;exact⟨rfl,c,rfl⟩
  |none,h=>cases h
theorem nS {a:Addr}:¬own σ (unown ρ) a:=λ⟨i,d,h,_⟩=>by
 obtain⟨z,_⟩:=kY h;cases z
theorem eJ.unown (s:eJ K B0 H0 N H σ ρ):eJ K B0 H0 N H σ (unown ρ):=by
 refine⟨s.bh,s.tb,s.ext,by unfold DL.unown;rw[vI];exact s.len,λi d q=>?_,λi d q=>?_,λi j a d e q=>?_⟩
 ·obtain⟨_,c,q⟩:=kY q;obtain⟨v,h1,h2⟩:=s.rep.at' i d c q;exact⟨v,h1,h2.mono λa o e=>by rw[cV nS];exact e⟩
 ·obtain⟨z,_⟩:=kY q;cases z
 ·obtain⟨z,_⟩:=kY q;cases z
theorem cn {α:Type}{l:List α}{i j:Nat}{x y:α}(h:(l.set i x)[j]? = some y):(i=j/\x=y)∨(i≠j/\l[j]? = some y):=by
 by_cases e:i=j
 ·subst e;rw[List.getElem?_set]at h;split at h
  ·split at h
   ·exact .inl ⟨rfl,vK h⟩
   ·cases h
  ·contradiction
 ·rw[vB e]at h;exact .inr ⟨e,h⟩
theorem tV {α β:Type}{l:List α}{m:List β}{i:Nat}{x y:α}(h:(l.set i x)[i]? = some y)(e:l.length=m.length):i<m.length:=by
 obtain⟨h,_⟩:=vV h;rw[List.length_set]at h;omega
theorem ww {i:Nat}{v:V}{x:Option (D×Bool)}{a:Addr}(h:own (σ.set i (some v)) (ρ.set i x) a):(v=.ref a/\∃d,x=some (d,true))∨∃j,j≠i/\∃d,ρ[j]? = some (some (d,true))/\σ[j]? = some (some (V.ref a)):=by
 obtain⟨j,d,h1,h2⟩:=h;rcases cn h1 with⟨e,q⟩|⟨e,q⟩
 ·rcases cn h2 with⟨e2,q2⟩|⟨e2,q2⟩
  ·cases q2;exact .inl ⟨rfl,d,q⟩
  ·exact absurd e e2
 ·rcases cn h2 with⟨e2,q2⟩|⟨e2,q2⟩
  ·exact absurd e2 e
  ·exact .inr ⟨j,λz=>e z.symm,d,q,q2⟩
theorem eJ.bind (s:eJ K B0 H0 N H σ ρ){i:Nat}{v:V}{d:D}(h:Is K (dU N (own σ ρ)) v d):eJ K B0 H0 N H (σ.set i (some v)) (ρ.set i (some (d,false))):=by
 have o:∀a,own (σ.set i (some v)) (ρ.set i (some (d,false))) a->own σ ρ a:=λa q=>by
  rcases ww q with⟨_,d',p⟩|⟨j,_,d',q1,q2⟩
  ·cases p
  ·exact⟨j,d',q1,q2⟩
 have c:aV (dU N (own σ ρ)) (dU N (own (σ.set i (some v)) (ρ.set i (some (d,false))))):=eW λa u e q=>⟨e,λz=>q (o a z)⟩;refine⟨s.bh,s.tb,s.ext,by simp[s.len],λj e q=>?_,λj e q=>?_,λj k a e f q q' h1 h2=>?_⟩
 ·rcases cn q with⟨rfl,p⟩|⟨ne,p⟩
  ·cases p
   have hi:=tV q s.len;exact⟨v,by simp[hi],h.mono c⟩
  ·obtain⟨w,h1,h2⟩:=s.sh j e p;exact⟨w,by rw[vB ne];exact h1,h2.mono c⟩
 ·rcases cn q with⟨rfl,p⟩|⟨ne,p⟩
  ·cases p
  ·obtain⟨a,o,h1,h2,h3,h4⟩:=s.ow j e p;exact⟨a,o,by rw[vB ne];exact h1,h2,h3,h4.mono c⟩
 ·rcases cn q with⟨rfl,p⟩|⟨ne,p⟩
  ·cases p
  ·rcases cn q' with⟨rfl,p'⟩|⟨Ro,p'⟩
   ·cases p'
   ·rw[vB ne]at h1;rw[vB Ro]at h2;exact s.inj j k a e f p p' h1 h2
theorem eJ.bindOwn (s:eJ K B0 H0 N H σ ρ){i:Nat}{a:Addr}{ob:HO}{dd:D}(hN:N a=some ob)(h0:H0 a=none)(Po:∀(j:Nat)(d:D),ρ[j]? = some (some (d,true))->σ[j]? ≠ some (some (V.ref a)))
  (Uy:∀(j:Nat)(d:D),j≠i->ρ[j]? = some (some (d,false))->∃v,σ[j]? = some (some v)/\Is K (dU N (λb=>own σ ρ b∨b=a)) v d) (Yl:∀(j:Nat)(d:D),j≠i->ρ[j]? = some (some (d,true))->∃(a':Addr)(o:HO),σ[j]? = some (some (V.ref a'))/\N a'=some o/\Bx K (dU N (λb=>own σ ρ b∨b=a)) o d)
  (Ow:Bx K (dU N (λb=>own σ ρ b∨b=a)) ob dd):eJ K B0 H0 N H (σ.set i (some (.ref a))) (ρ.set i (some (dd,true))):=by
 have o:∀b,own (σ.set i (some (V.ref a))) (ρ.set i (some (dd,true))) b->own σ ρ b∨b=a:=λb q=>by
  rcases ww q with⟨p,_⟩|⟨j,_,d',q1,q2⟩
  ·cases p;exact .inr rfl
  ·exact .inl ⟨j,d',q1,q2⟩
 have c:aV (dU N (λb=>own σ ρ b∨b=a)) (dU N (own (σ.set i (some (V.ref a))) (ρ.set i (some (dd,true))))):=eW λb u e q=>⟨e,λz=>q (o b z)⟩;refine⟨s.bh,s.tb,s.ext,by simp[s.len],λj e q=>?_,λj e q=>?_,λj k b e f q q' h1 h2=>?_⟩
 ·rcases cn q with⟨rfl,p⟩|⟨ne,p⟩
  ·cases p
  ·obtain⟨w,h1,h2⟩:=Uy j e (Ne.symm ne) p;exact⟨w,by rw[vB ne];exact h1,h2.mono c⟩
 ·rcases cn q with⟨rfl,p⟩|⟨ne,p⟩
  ·cases p
   have hi:=tV q s.len;exact⟨a,ob,by simp[hi],hN,h0,Ow.mono c⟩
  ·obtain⟨a',o',h1,h2,h4⟩:=Yl j e (Ne.symm ne) p;have h3:H0 a'=none:=by
    obtain⟨a2,_,k1,_,k3,_⟩:=s.ow j e p;rw[h1]at k1;cases k1;exact k3
   exact⟨a',o',by rw[vB ne];exact h1,h2,h3,h4.mono c⟩
 ·rcases cn q with⟨rfl,p⟩|⟨ne,p⟩
  ·rcases cn q' with⟨rfl,p'⟩|⟨Ro,p'⟩
   ·rfl
   ·rw[vB Ro]at h2;have SG:V.ref a=V.ref b:=by
     rcases cn h1 with⟨_,z⟩|⟨z,_⟩
     ·exact vK z
     ·exact absurd rfl z
    cases SG
    exact absurd h2 (Po k f p')
  ·rcases cn q' with⟨rfl,p'⟩|⟨Ro,p'⟩
   ·rw[vB ne]at h1;have EB:V.ref a=V.ref b:=by
     rcases cn h2 with⟨_,z⟩|⟨z,_⟩
     ·exact vK z
     ·exact absurd rfl z
    cases EB
    exact absurd h1 (Po j e p)
   ·rw[vB ne]at h1;rw[vB Ro]at h2;exact s.inj j k b e f p p' h1 h2
end
inductive Res where
 |nx (ρ:Env)|rt (d:D) (b:Bool)|bk (ρ:Env)|ct (ρ:Env)
abbrev FS:=Env->Option Res
def Q0 (K:PySem.W.Frag)(B0 H0:Hp)(E:Ends):Res->Prop
 |.nx ρ=>∀σ H,A8 K B0 H0 H σ ρ->E.nx σ H
 |.rt d b=>∀v H N,Ext B0 N H0 H->Is K N v d->(b=true->OU K H0 N v d)->E.rt v H
 |.bk ρ=>∀σ H,A8 K B0 H0 H σ ρ->E.bk σ H
 |.ct ρ=>∀σ H,A8 K B0 H0 H σ ρ->E.ct σ H
def nU (K:PySem.W.Frag)(g:FS):TS:=λE σ H=>∃(B0 H0:Hp)(ρ:Env)(r:Res),A8 K B0 H0 H σ ρ/\g ρ=some r/\Q0 K B0 H0 E r
section
variable {K:PySem.W.Frag}{B0 H0 N H H':Hp}{σ:St}{ρ:Env}{E:Ends}
theorem eJ.writeB (s:eJ K B0 H0 N H σ ρ)(hi:ρ[i]? = some (some (d,true)))(hσ:σ[i]? = some (some (V.ref a)))(h:Bx K (dU N (own σ ρ)) ob dd):
  eJ K B0 H0 (upd N a ob) (upd H a ob) σ (ρ.set i (some (dd,true))):=by
 have oa:own σ ρ a:=⟨i,d,hi,hσ⟩;obtain⟨ws,hw,h0⟩:=s.owned oa;have b0:B0 a=none:=s.bh.free h0;have o:∀b,own σ (ρ.set i (some (dd,true))) b↔own σ ρ b:=λb=>by
  constructor
  ·rintro⟨j,e,q1,q2⟩;rcases cn q1 with⟨rfl,p⟩|⟨_,p⟩
   ·exact⟨i,d,hi,q2⟩
   ·exact⟨j,e,p,q2⟩
  ·rintro⟨j,e,q1,q2⟩;by_cases z:i=j
   ·subst z;exact⟨i,dd,by rw[List.getElem?_set_self (vV hi).1],q2⟩
   ·exact⟨j,e,by rw[vB z];exact q1,q2⟩
 have c:aV (dU N (own σ ρ)) (dU (upd N a ob) (own σ (ρ.set i (some (dd,true))))):=eW λb u e q=>by
  have ne:b≠a:=λz=>q (z ▸ oa);exact⟨by rw[aK ne];exact e,λz=>q ((o b).mp z)⟩
 refine⟨s.bh,s.tb,⟨λb u e=>?_,λb u e=>?_,λb u e=>?_,λb u e=>?_⟩,by rw[List.length_set];exact s.len,λj e q=>?_,λj e q=>?_,λj k b e f q q' h1 h2=>?_⟩
 ·rw[aK (λz=>by subst z;rw[h0]at e;cases e)];exact s.ext.hh _ _ e
 ·rw[aK (λz=>by subst z;rw[b0]at e;cases e)];exact s.ext.bn _ _ e
 ·by_cases z:b=a
  ·subst z;rw[aG]at e ⊢;exact e
  ·rw[aK z]at e ⊢;exact s.ext.nh _ _ e
 ·by_cases z:b=a
  ·subst z;exact .inr h0
  ·rw[aK z]at e;exact s.ext.new _ _ e
 ·rcases cn q with⟨rfl,p⟩|⟨ne,p⟩
  ·cases p
  ·obtain⟨v,h1,h2⟩:=s.sh j e p;exact⟨v,h1,h2.mono c⟩
 ·rcases cn q with⟨rfl,p⟩|⟨ne,p⟩
  ·cases p
   exact⟨a,ob,hσ,aG,h0,h.mono c⟩
  ·obtain⟨a',o',h1,h2,h3,h4⟩:=s.ow j e p;have na:a'≠a:=λz=>by subst z;exact ne (s.inj i j _ d e hi p hσ h1)
   exact⟨a',o',h1,by rw[aK na];exact h2,h3,h4.mono c⟩
 ·have get:∀ {j:Nat}{e:D},(ρ.set i (some (dd,true)))[j]? = some (some (e,true))->∃e',ρ[j]? = some (some (e',true)):=λ{j e} q=>by
   rcases cn q with⟨rfl,p⟩|⟨ne,p⟩
   ·exact⟨d,hi⟩
   ·exact⟨e,p⟩
  obtain⟨e',q1⟩:=get q;obtain⟨f',q2⟩:=get q';exact s.inj j k b e' f' q1 q2 h1 h2
theorem eJ.write (s:eJ K B0 H0 N H σ ρ)(hi:ρ[i]? = some (some (d,true)))(hσ:σ[i]? = some (some (V.ref a)))(h:IsL K (dU N (own σ ρ)) vs ds):
  eJ K B0 H0 (upd N a (.lst vs)) (upd H a (.lst vs)) σ (ρ.set i (some (.lst ds,true))):=s.writeB hi hσ (.lst h)
theorem eJ.tups (s:eJ K B0 H0 N H σ ρ):∀a vs,jo K N a vs->jo K (dU N (own σ ρ)) a vs:=λa vs h=>by
 have key:∀u,N a=some u->¬boxed u->dU N (own σ ρ) a=some u:=λu e hu=>by
  rw[cV λz=>?_];exact e;obtain⟨ws,⟨q,qb⟩,_⟩:=s.owned z;rw[e]at q;cases q;exact hu qb
 rcases h with (h|⟨o,h⟩)|h
 ·exact .inl (.inl (key _ h (λq=>q)))
 ·exact .inl (.inr ⟨o,key _ h (λq=>q)⟩)
 ·exact .inr h
theorem eJ.flat (s:eJ K B0 H0 N H σ ρ)(h:Is K N v d)(n:bg d=true):Is K (dU N (own σ ρ)) v d:=h.keepT s.tups n
theorem eJ.flats (s:eJ K B0 H0 N H σ ρ)(h:IsL K N v d)(n:b9 d=true):IsL K (dU N (own σ ρ)) v d:=h.keepT s.tups n
theorem eJ.rebase (s:eJ K B0 H0 N H σ ρ):eJ K (dU N (own σ ρ)) (dU H (own σ ρ)) N H σ ρ :=
 ⟨eW λa o e q=>⟨s.ext.nh _ _ e,q⟩,s.tbC,⟨bU,bU,s.ext.nh,λa o e=>by
  by_cases q:own σ ρ a
  ·exact .inr (A7 q)
  ·exact .inl (by rw[cV q];exact e)⟩,s.len,s.sh,λi d q=>by
   obtain⟨a,o,h1,h2,_,h4⟩:=s.ow i d q;exact⟨a,o,h1,h2,A7 ⟨i,d,q,h1⟩,h4⟩,s.inj⟩
theorem eJ.unbase (s:eJ K B0 H0 N H σ ρ)(t:eJ K (dU N (own σ ρ)) (dU H (own σ ρ)) N' H' σ' ρ'):eJ K B0 H0 N' H' σ' ρ':=by
 have h0:aV H0 (dU H (own σ ρ)):=λa o e=>by
  rw[cV λz=>?_];exact s.ext.hh _ _ e;obtain⟨_,_,q⟩:=s.owned z;rw[q]at e;cases e
 have b0:aV B0 (dU N (own σ ρ)):=λa o e=>by
  rw[cV λz=>?_];exact s.ext.bn _ _ e;obtain⟨_,_,q⟩:=s.owned z;rw[s.bh _ _ e]at q;cases q
 refine⟨s.bh,s.tb,⟨h0.trans t.ext.hh,b0.trans t.ext.bn,t.ext.nh,λa o e=>?_⟩,t.len,t.sh,λi d q=>?_,t.inj⟩
 ·rcases t.ext.new a o e with z|z
  ·exact s.ext.new a o (bU _ _ z)
  ·exact .inr (h0.free z)
 ·obtain⟨a,o,h1,h2,h3,h4⟩:=t.ow i d q;exact⟨a,o,h1,h2,h0.free h3,h4⟩
theorem eJ.based (t:eJ K B0 H0 N H σ ρ):aV B0 (dU N (own σ ρ)):=λa o e=>by
 rw[cV λz=>?_];exact t.ext.bn _ _ e;obtain⟨_,_,q⟩:=t.owned z;rw[t.bh _ _ e]at q;cases q
@[simp] noncomputable def a9 (g h:FS):FS:=λρ=>match g ρ with|some (.nx ρ')=>h ρ'|r=>r
@[simp] noncomputable def bp:FS:=λρ=>some (.nx ρ)
@[simp] noncomputable def eM (c:FT)(g h:FS):FS:=λρ=>match c ρ with|some true=>g ρ|some false=>h ρ|none=>none
@[simp] noncomputable def aW (f:FE):FS:=λρ=>(f ρ).map λx=>.rt x.1 x.2
@[simp] noncomputable def VA:FS:=λ_=>some (.rt .non false)
@[simp] noncomputable def VB (f:FE):FS:=λρ=>(f ρ).map λ_=>.nx ρ
@[simp] noncomputable def Lq:D->Bool
 |.dk _ _=>true
 |.dt _ _=>true
 |_=>false
@[simp] def jr (i:Nat):FS:=λρ=>match ρ[i]? with|some (some (d,b))=>some (.rt d (b && !Lq d))|_=>none
@[simp] def ya:D->Bool
 |.lst ds=>b9 ds
 |_=>false
@[simp] def setE (ρ:Env)(i:Nat)(d:D)(b:Bool):Env :=
 if bg d=true then ρ.set i (some (d,false))else if b=true/\ya d=true then ρ.set i (some (d,true))else (unown ρ).set i (some (d,false))
@[simp] def aO (i:Nat)(f:FE):FS:=λρ=>(f ρ).map λx=>.nx (setE ρ i x.1 x.2)
@[simp] def yc (i:Nat)(f:FE):FS:=λρ=>(f (m6 ρ)).map λx=>.nx (ρ.set i (some (x.1,false)))
@[simp] def js (i:Nat)(f:FE):FS:=λρ=>match ρ[i]? with
 |some (some (.lst ds,true))=>(f ρ).bind λx=>if bg x.1=true/\ds.length<sizeLine then some (.nx (ρ.set i (some (.lst (ds++[x.1]),true))))else none
 |_=>none
theorem Jh (q:nU K (a9 g h) E σ H):PQ (nU K g) (nU K h) E σ H:=by
 obtain⟨B0,H0,ρ,r,s,e,p⟩:=q;unfold a9 at e;cases eg:g ρ with
 |none=>rw[eg]at e;cases e
 |some r1=>
  rw[eg]at e;cases r1 with
  |nx ρ'=>exact⟨B0,H0,ρ,.nx ρ',s,eg,λσ' H' s'=>⟨B0,H0,ρ',r,s',e,p⟩⟩
  |rt d b=>cases e;exact⟨B0,H0,ρ,_,s,eg,p⟩
  |bk ρ'=>cases e;exact⟨B0,H0,ρ,_,s,eg,p⟩
  |ct ρ'=>cases e;exact⟨B0,H0,ρ,_,s,eg,p⟩
theorem Fy (q:nU K bp E σ H):Le E σ H:=by
 obtain⟨B0,H0,ρ,r,s,e,p⟩:=q;cases e
 exact p σ H s
theorem A8.grown (s:eJ K B0 H0 N H σ ρ)(h:aV H H'):A8 K B0 H0 H' σ ρ:=⟨N,s.grow (.grow s.ext.nh h)⟩
theorem Nj (q:nU K (eM c g h) E σ H):PV (D8 K c) (nU K g) (nU K h) E σ H:=by
 obtain⟨B0,H0,ρ,r,⟨N,s⟩,e,p⟩:=q;unfold eM at e;cases ec:c ρ with
 |none=>rw[ec]at e;cases e
 |some b=>
  rw[ec]at e;refine⟨N,ρ,b,s.ext.nh,s.rep,ec,λH1 h1=>?_⟩;cases b with
  |true=>rw[if_pos rfl];exact⟨B0,H0,ρ,r,.grown s h1,e,p⟩
  |false=>rw[if_neg (by decide)];exact⟨B0,H0,ρ,r,.grown s h1,e,p⟩
theorem Ji (q:nU K (aW f) E σ H):MD (tD K f) E σ H:=by
 obtain⟨B0,H0,ρ,r,⟨N,s⟩,e,p⟩:=q;obtain⟨x,ex,e⟩:=oY e;subst e;exact⟨N,ρ,x.1,x.2,s.ext.nh,s.rep,ex,λv H1 N1 x1 i1 f1=>p v H1 N1 (s.ext.trans x1) i1 λb=>(f1 b).back s.ext.hh⟩
theorem Fz (q:nU K (jr i) E σ H):MD (EY i) E σ H:=by
 obtain⟨B0,H0,ρ,r,⟨N,s⟩,e,p⟩:=q;unfold jr at e;split at e
 ·rename_i d b ei;cases e
  cases b with
  |false=>
   obtain⟨v,h1,h2⟩:=s.sh i d ei;exact⟨v,h1,p v H N s.ext (h2.mono bU) (by simp)⟩
  |true=>
   obtain⟨a,o,h1,h2,h3,h4⟩:=s.ow i d ei;cases h4 with
   |lst h4=>exact⟨_,h1,p _ H N s.ext (.lst (iP.of h2) (h4.mono bU)) λ_=>⟨a,_,_,rfl,rfl,h3,h2,h4.mono bU⟩⟩
   |dk hl h4=>exact⟨_,h1,p _ H N s.ext (.dk h2 hl (h4.mono bU)) (by simp)⟩
   |dt hl h4=>exact⟨_,h1,p _ H N s.ext (.dt h2 hl (h4.mono bU)) (by simp)⟩
 ·cases e
theorem eJ.setE (s:eJ K B0 H0 N H σ ρ)(x:Ext N N1 H H1)(h:Is K N1 v d)(f:b=true->OU K H N1 v d):eJ K B0 H0 N1 H1 (σ.set i (some v)) (setE ρ i d b):=by
 have s1:=s.grow x;unfold DL.setE;by_cases hn:bg d=true
 ·rw[if_pos hn];exact s1.bind (s1.flat h hn)
 ·rw[if_neg hn];by_cases hb:b=true/\ya d=true
  ·rw[if_pos hb];obtain⟨a,vs,ds,rfl,rfl,ha,hN,hs⟩:=f hb.1;have Wj:N a=none:=s.ext.nh.free ha;have Rq:¬own σ ρ a:=λz=>by obtain⟨ws,⟨q,_⟩,_⟩:=s.owned z;rw[Wj]at q;cases q
   have c:aV (dU N (own σ ρ)) (dU N1 (λb=>own σ ρ b∨b=a)):=eW λb u e q=>⟨x.bn _ _ e,λz=>z.elim q λz=>by subst z;rw[Wj]at e;cases e⟩;refine s1.bindOwn hN (s.ext.hh.free ha) (λj e q z=>Rq ⟨j,e,q,z⟩) (λj e _ q=>?_) (λj e _ q=>?_) (.lst (hs.keepT (λt ts st=>?_) hb.2))
   ·obtain⟨w,h1,h2⟩:=s.sh j e q;exact⟨w,h1,h2.mono c⟩
   ·obtain⟨a',o',h1,h2,_,h4⟩:=s.ow j e q;exact⟨a',o',h1,x.bn _ _ h2,h4.mono c⟩
   ·have key:∀u,N1 t=some u->¬boxed u->dU N1 (λb=>own σ ρ b∨b=a) t=some u:=λu e hu=>by
     rw[cV λz=>?_];exact e;rcases z with z|z
     ·obtain⟨ws,⟨q,qb⟩,_⟩:=s1.owned z;rw[e]at q;cases q;exact hu qb
     ·subst z;rw[e]at hN;cases hN;exact hu trivial
    rcases st with (st|⟨o,st⟩)|st
    ·exact .inl (.inl (key _ st (λq=>q)))
    ·exact .inl (.inr ⟨o,key _ st (λq=>q)⟩)
    ·exact .inr st
  ·rw[if_neg hb];exact s1.unown.bind (h.mono λa o e=>by rw[cV nS];exact e)
theorem BJ (q:nU K (aO i f) E σ H):xQ (tD K f) (jX i) E σ H:=by
 obtain⟨B0,H0,ρ,r,⟨N,s⟩,e,p⟩:=q;obtain⟨x,ex,e⟩:=oY e;subst e;exact⟨N,ρ,x.1,x.2,s.ext.nh,s.rep,ex,λv H1 N1 x1 i1 f1=>p _ H1 ⟨N1,s.setE x1 i1 f1⟩⟩
theorem F0 (q:nU K (yc i f) E σ H):xQ (tD K f) (jX i) E σ H:=by
 obtain⟨B0,H0,ρ,r,⟨N,s⟩,e,p⟩:=q;obtain⟨x,ex,e⟩:=oY e;subst e;refine⟨dU N (own σ ρ),m6 ρ,x.1,x.2,bU.trans s.ext.nh,s.repH,ex,λv H1 N1 x1 i1 f1=>?_⟩;obtain⟨s1,c⟩:=s.growH x1;exact p _ H1 ⟨_,s1.bind (i1.mono c)⟩
theorem Jj (q:nU K (js i f) E σ H):∃(a:Addr)(us:List V),σ[i]? = some (some (V.ref a))/\H a=some (.lst us)/\Lk (tD K f) Qm σ H λxs H2=>BH (.ref a) xs H2 λ_ H3=>E.nx σ H3:=by
 obtain⟨B0,H0,ρ,r,⟨N,s⟩,e,p⟩:=q;unfold js at e;split at e
 ·rename_i ds ei;obtain⟨x,ex,e⟩:=oX e;split at e
  ·rename_i hx;cases e
   obtain⟨a,vs,KR,z,h1,h2,h3,h4⟩:=s.owL i _ ei;cases z
   refine⟨a,vs,h1,s.ext.nh _ _ h2,N,ρ,x.1,x.2,s.ext.nh,s.rep,ex,λv H1 N1 x1 i1 f1=>⟨a,vs,v,rfl,rfl,x1.hh _ _ (s.ext.nh _ _ h2),by rw[h4.length];exact hx.2,?_⟩⟩;have s1:=s.grow x1;obtain⟨a',SH,KR,z,k1,k2,_,k4⟩:=s1.owL i _ ei;cases z
   rw[h1]at k1;cases k1;rw[x1.bn _ _ h2]at k2;cases k2;exact p σ _ ⟨_,s1.write ei h1 (k4.append (.cons (s1.flat i1 hx.1) .nil))⟩
  ·cases e
 ·cases e
end
noncomputable def F3 (c:FT)(g:FS):Nat->Env->Option Res
 |0,_=>none
 |n+1,ρ=>match c ρ with
  |some true=>match g ρ with
   |some (.nx ρ')=>F3 c g n ρ'
   |some (.ct ρ')=>F3 c g n ρ'
   |some (.bk ρ')=>some (.nx ρ')
   |r=>r
  |some false=>some (.nx ρ)
  |none=>none
def p9 (K:PySem.W.Frag)(J:It)(B:Hp)(ds:List D):Prop:=∀(i:Nat)(H:Hp),aV B H ->
 (∀d,ds[i]? = some d->J.go i H/\∀x H',J.yld i H x H'->∃N,Ext B N H H'/\Is K N x d)/\(ds.length<=i->J.stop i H)
def VC (K:PySem.W.Frag)(f:FA):TI:=λσ H R=>∃(B:Hp)(ρ:Env)(ds:List D),aV B H/\fM K B σ ρ/\f ρ=some ds/\∀(J:It)(H' N:Hp),Ext B N H H'->p9 K J N ds->R J H'
abbrev FG:=D->Env->Option Env
def Jk (K:PySem.W.Frag)(tg:FG)(g:TG):Prop:=∀(B0 H0 N H:Hp)(σ:St)(ρ ρ':Env)(v:V)(d:D)(Q:St->Hp->Prop),eJ K B0 H0 N H σ ρ->Is K (dU N (own σ ρ)) v d->tg d ρ=some ρ' ->
 (∀σ' H',A8 K B0 H0 H' σ' ρ'->Q σ' H')->g v σ H Q
@[simp] noncomputable def dq (i:Nat):FG:=λd ρ=>some (ρ.set i (some (d,false)))
theorem eX:Jk K (dq i) (jX i):=by
 intro B0 H0 N H σ ρ ρ' v d Q s h e k;cases e
 exact k _ H ⟨N,s.bind h⟩
noncomputable def jc (tg:FG)(g:FS):List D->Env->Option Res
 |[],ρ=>some (.nx ρ)
 |d::ds,ρ=>(tg d ρ).bind λρ1=>match g ρ1 with
  |some (.nx ρ')=>jc tg g ds ρ'
  |some (.ct ρ')=>jc tg g ds ρ'
  |some (.bk ρ')=>some (.nx ρ')
  |r=>r
@[simp] theorem F4 (tg:FG)(g:FS)(ρ:Env):jc tg g [] ρ=some (.nx ρ):=by rw[jc]
@[simp] theorem D9 (tg:FG)(g:FS)(d:D)(ds:List D)(ρ:Env):jc tg g (d::ds) ρ=(tg d ρ).bind λρ1=>match g ρ1 with
  |some (.nx ρ')=>jc tg g ds ρ'
  |some (.ct ρ')=>jc tg g ds ρ'
  |some (.bk ρ')=>some (.nx ρ')
  |r=>r:=by rw[jc]
@[simp] def qg (f:FA)(tg:FG)(g:FS):FS:=λρ=>(f (m6 ρ)).bind λds=>jc tg g ds ρ
theorem ye (ht:Jk K tg t)(s1:eJ K B0 H0 N H1 σ ρ)(c:aV N1 (dU N (own σ ρ)))(J1:p9 K J N1 ds)(e:jc tg g ds ρ=some r)(p:Q0 K B0 H0 E r):
  ∃W:Nat->Nat->St->Hp->Prop,(∃m,W 0 m σ H1)/\∀i m σ H,W i m σ H->(J.stop i H/\E.nx σ H)∨(J.go i H/\∃N:St->Hp->Prop,(∀σ' H',N σ' H'->∃m',m'<m/\W (i+1) m' σ' H')/\∀x H',J.yld i H x H'->t x σ H' λσ2 H2=>nU K g { E with nx:=N,ct:=N,bk:=E.nx } σ2 H2):=by
 refine⟨λi m σ H=>∃(N:Hp)(ρ:Env),eJ K B0 H0 N H σ ρ/\aV N1 (dU N (own σ ρ))/\m=ds.length - i/\i<=ds.length/\jc tg g (ds.drop i) ρ=some r,⟨ds.length,_,ρ,s1,c,rfl,uN _,e⟩,?_⟩;clear e s1 c;rintro i m σ H ⟨N,ρ,s,c,rfl,hi,e⟩;have hs:aV N1 H:=c.trans (bU.trans s.ext.nh);obtain⟨j1,j2⟩:=J1 i H hs;by_cases fN:i<ds.length
 ·obtain⟨go,yl⟩:=j1 ds[i] (by simp[fN]);rw[List.drop_eq_getElem_cons fN]at e;obtain⟨ρ1,e1,e⟩:=oX e;refine .inr ⟨go,λσ' H'=>∃(N:Hp)(ρ:Env),eJ K B0 H0 N H' σ' ρ/\aV N1 (dU N (own σ' ρ))/\jc tg g (ds.drop (i+1)) ρ=some r,λσ' H' ⟨N',ρ',s',c',e'⟩=>⟨_,by omega,N',ρ',s',c',rfl,fN,e'⟩,λx H' y=>?_⟩;obtain⟨N2,x2,i2⟩:=yl x H' y;have x3:Ext (dU N (own σ ρ)) (join (dU N (own σ ρ)) N2) H H':=by
   refine⟨x2.hh,fm,λa o e=>?_,λa o e=>?_⟩
   ·cases q:dU N (own σ ρ) a with
    |some u=>rw[fm _ _ q]at e;cases e;exact x2.hh _ _ (s.ext.nh _ _ (bU _ _ q))
    |none=>rw[eK q]at e;exact x2.nh _ _ e
   ·cases q:dU N (own σ ρ) a with
    |some u=>rw[fm _ _ q]at e;cases e;exact .inl rfl
    |none=>
     rw[eK q]at e;rcases x2.new a o e with z|z
     ·rw[c _ _ z]at q;cases q
     ·exact .inr z
  obtain⟨s2,c2⟩:=s.growH x3;have c3:aV N2 (join (dU N (own σ ρ)) N2):=λa o e=>by
   rcases x2.new a o e with z|z
   ·exact fm _ _ (c _ _ z)
   ·rw[eK ((bU.trans s.ext.nh).free z)];exact e
  have i3:=i2.mono (c3.trans c2);have c4:aV N1 (dU (join N (join (dU N (own σ ρ)) N2)) (own σ ρ)):=(x2.bn.trans c3).trans c2;refine ht _ _ _ _ _ _ _ _ _ _ s2.rebase i3 e1 λσ2 H2 ⟨N4,s4⟩=>?_;cases eg:g ρ1 with
  |none=>rw[eg]at e;cases e
  |some r1=>
   rw[eg]at e;refine⟨_,_,ρ1,r1,⟨N4,s4⟩,eg,?_⟩;have back:∀ {σ':St}{H':Hp}{ρ':Env}{N':Hp},eJ K _ _ N' H' σ' ρ'->eJ K B0 H0 N' H' σ' ρ'/\aV N1 (dU N' (own σ' ρ')):=λt=>⟨s2.unbase t,c4.trans t.based⟩;cases r1 with
   |nx ρ'=>exact λσ' H' ⟨N',t⟩=>⟨N',ρ',(back t).1,(back t).2,e⟩
   |ct ρ'=>exact λσ' H' ⟨N',t⟩=>⟨N',ρ',(back t).1,(back t).2,e⟩
   |bk ρ'=>cases e;exact λσ' H' ⟨N',t⟩=>p σ' H' ⟨N',(back t).1⟩
   |rt d b=>
    cases e
    intro v H' N' x' i' f';have y:=s2.rebase.ext;have h0:aV H0 (dU H' (λ_=>False)):=λa o e=>by rw[cV (λz=>z)];exact x'.hh _ _ (by
     rw[cV λz=>?_];exact s2.ext.hh _ _ e;obtain⟨_,_,q⟩:=s2.owned z;rw[q]at e;cases e)
    have h0':aV H0 (dU H' (λ_=>False)):=h0;have hH:aV H0 (dU H' (λ_=>False)):=h0;have hc:∀a,dU H' (λ_=>False) a=H' a:=λa=>cV (λz=>z);have hb:aV H0 (dU _ (own σ ρ)):=λa o e=>by
     rw[cV λz=>?_];exact s2.ext.hh _ _ e;obtain⟨_,_,q⟩:=s2.owned z;rw[q]at e;cases e
    have bb:aV B0 (dU _ (own σ ρ)):=λa o e=>by
     rw[cV λz=>?_];exact s2.ext.bn _ _ e;obtain⟨_,_,q⟩:=s2.owned z;rw[s2.bh _ _ e]at q;cases q
    refine p v H' N' ⟨hb.trans x'.hh,bb.trans x'.bn,x'.nh,λa o e=>?_⟩ i' λz=>(f' z).back hb;rcases x'.new a o e with z|z
    ·exact s2.ext.new a o (bU _ _ z)
    ·exact .inr (hb.free z)
 ·have ei:i=ds.length:=by omega
  subst ei;rw[List.drop_eq_nil_of_le (vT _)]at e;cases e
  exact .inl ⟨j2 (vT _),p σ H ⟨N,s⟩⟩
theorem Jl (ht:Jk K tg t)(q:nU K (qg f tg g) E σ H):MI (VC K f) t (nU K g) E σ H:=by
 obtain⟨B0,H0,ρ,r,⟨N,s⟩,e,p⟩:=q;obtain⟨ds,ef,e⟩:=oX e;refine⟨dU N (own σ ρ),m6 ρ,ds,bU.trans s.ext.nh,s.repH,ef,λJ H1 N1 x1 J1=>?_⟩;obtain⟨s1,c⟩:=s.growH x1;exact ye ht s1 c J1 e p
def Su (K:PySem.W.Frag)(f:FA):TI:=λσ H R=>∃(B:Hp)(ρ:Env)(ds:List D),aV B H/\fM K B σ ρ/\f ρ=some ds/\∀(J:It)(H' N:Hp),Ext B N H H'->(∀B',p9 K J B' ds)->R J H'
@[simp] def jZ (f:FA)(tg:FG)(g:FS):FS:=λρ=>(f ρ).bind λds=>jc tg g ds ρ
theorem F5 (ht:Jk K tg t)(q:nU K (jZ f tg g) E σ H):MI (Su K f) t (nU K g) E σ H:=by
 obtain⟨B0,H0,ρ,r,⟨N,s⟩,e,p⟩:=q;obtain⟨ds,ef,e⟩:=oX e;refine⟨N,ρ,ds,s.ext.nh,s.rep,ef,λJ H1 N1 x1 J1=>?_⟩;exact ye ht (s.grow x1) (aV.refl _) (J1 _) e p
end DL
namespace DL
open PySem PySem.Spec PyProof.Rows L2
abbrev JE (X:Cx)(e:Expr)(f:FE):Prop:=PE X e (tD X.K f)
abbrev JT (X:Cx)(e:Expr)(f:FT):Prop:=PT X e (D8 X.K f)
abbrev JW (X:Cx)(e:Expr)(f:FT):Prop:=PW X e (D8 X.K f)
abbrev JA (X:Cx)(es:List Expr)(f:FA):Prop:=PA X es (OV X.K f)
abbrev JS (X:Cx)(st:Stmt)(g:FS):Prop:=PS X st (nU X.K g)
abbrev xG (X:Cx)(st:List Stmt)(g:FS):Prop:=wa X st (nU X.K g)
abbrev JI (X:Cx)(tg dr:Expr)(f:FA):Prop:=PI X tg dr (VC X.K f)
theorem wx (I:Nat->Shared->Prop)
  (KH:∀n s,I n s->wpAny (model prog w) A (pyNext it) (λr s₁=>match r with
   |none=>R (.ok .next) s₁
   |some v=>wpAny (model prog w) A (letOwnedTupleGo sL it v) (λ_ s₁=>wpAny (model prog w) A (assign sL env v) (λ_ s₂=>
     wpAny (model prog w) A (forIn xC true λc r=>if r=true then do let ok ←isTrue c env (eval c env);pure (ForInStep.yield ok)else pure (ForInStep.yield r)) (λok s₃=>
      if ok=true then wpAny (model prog w) A (eval zZ env) (λx s₄=>
       wpAny (model prog w) A (call (.builtin "list.append") [mn,x]) (λ_ s₅=>∃m,m<n/\I m s₅) (λ_ _=>False) s₄) (λ_ _=>False) s₃
      else ∃m,m<n/\I m s₃) (λ_ _=>False) s₂) (λ_ _=>False) s₁) (λ_ _=>False) s₁) (λ_ _=>False) s)
  (n:Nat) (h:I n s):codeAny (model prog w) A (.compLoop (.ListComp zZ [⟨sL,dr,xC,0⟩] scope pos) 0 it mn env) R s:=by
 refine codeAny_loop rfl I (λn s hI=>?_) n h;show wpAny _ A ((compTurn (.ListComp zZ [⟨sL,dr,xC,0⟩] scope pos) 0 it mn env).onRaise (λx=>do noteFrame x env;theTreesLotGoes x)) _ _ s;refine wpAny_noted (wpAny_mono (E:=λ_ _=>False) ?_ (λ_ _ q=>q) λ_ _ z=>z.elim);rw[compTurn_list];refine wX (wpAny_standAt (wX (wpAny_mono (KH n s hI) (λr s₁ h₁=>?_) λ_ _ h'=>h')));cases r with
 |none=>exact wY h₁
 |some v=>
  refine wX (wpAny_mono h₁ (λ_ s₁ h₁=>?_) λ_ _ h'=>h');refine wX (wpAny_mono h₁ (λ_ s₂ h₂=>wX (wpAny_mono h₂ (λok s₃ h₃=>?_) λ_ _ h'=>h')) λ_ _ h'=>h');cases ok with
  |false=>exact wY ⟨rfl,h₃⟩
  |true=>exact wX (wX (wpAny_mono h₃ (λx s₄ h₄=>wX (wpAny_mono h₄ (λ_ s₅ h₅=>wY (wY ⟨rfl,h₅⟩)) λ_ _ h'=>h')) λ_ _ h'=>h'))
theorem Ext.upd (x:Ext B N H H')(h:H a=none)(hN:N a=none):Ext B N H (upd H' a o) :=
 ⟨λb u e=>by rw[aK (λz=>by subst z;rw[h]at e;cases e)];exact x.hh _ _ e,x.bn,λb u e=>by rw[aK (λz=>by subst z;rw[hN]at e;cases e)];exact x.nh _ _ e,x.new⟩
noncomputable abbrev fQ (X:Cx)(N':List Str)(scope:Scope)(cl:List (Str×Addr))(C:Addr)(s₃:Shared)(H₃:Hp)(fp:List Addr):Cx :=
 { X with N:=N',s₀:=s₃,H₀:=H₃,env:=compEnvC scope cl C X.env,outer:=X.stack,stack:=X.stack,ex:=fp,fn:=λ_=>false,pn:=[],xe:=λ_ _=>False }
inductive nL (X:Cx)(N':List Str)(scope:Scope)(cl:List (Str×Addr)):Nat->List Nat->Prop where
 |nil {j:Nat}(h:N'.length=j):nL X N' scope cl j []
 |cons {j i:Nat}{r:List Nat}{x:Str}(h1:N'[j]? = some x) (h2:X.N[i]? = some x) (h3:X.env.kindOf x=some .cell∨X.env.kindOf x=some .free)
   (h4:(relabel scope X.env).names.lookup x=some .cell∨(relabel scope X.env).names.lookup x=some .free) (h5:cl.lookup x=X.env.cells.lookup x) (t:nL X N' scope cl (j+1) r):nL X N' scope cl j (i::r)
theorem nL.len:∀ {j:Nat}{cap:List Nat},nL X N' scope cl j cap->N'.length=j+cap.length
 |_,_,.nil h=>by rw[h];rfl
 |j,i::r,.cons _ _ _ _ _ t=>by rw[t.len,vE];omega
theorem nL.get:∀ {j:Nat}{cap:List Nat}{k i:Nat},nL X N' scope cl j cap->cap[k]? = some i->∃x,N'[j+k]? = some x/\X.N[i]? = some x/\(X.env.kindOf x=some .cell∨X.env.kindOf x=some .free) /\
  ((relabel scope X.env).names.lookup x=some .cell∨(relabel scope X.env).names.lookup x=some .free)/\cl.lookup x=X.env.cells.lookup x
 |_,_,_,_,.nil _,e=>by simp at e
 |j,_,0,_,.cons h1 h2 h3 h4 h5 _,e=>by simp at e;subst e;exact⟨_,h1,h2,h3,h4,h5⟩
 |j,_,k+1,i,.cons _ _ _ _ _ t,e=>by
  obtain⟨x,q,r⟩:=t.get (k:=k) (i:=i) (by simpa using e);exact⟨x,by rw[show j+(k+1)=j+1+k by omega];exact q,r⟩
structure CompSc (X:Cx)(scope:Scope)(cl:List (Str×Addr)):Prop where
 clos:closureFor scope X.env=pure cl
 nocell:∀y∈scope.names,y.2≠.cell
 kind:scope.kind=.function
 names:∀y∈scope.names,y.2=.local->scope.names.lookup y.1=some .local
 sub:∀x c,cl.lookup x=some c->X.env.cells.lookup x=some c
 has:∀x,((relabel scope X.env).names.lookup x=some .cell∨(relabel scope X.env).names.lookup x=some .free)->∃c,cl.lookup x=some c
noncomputable def dW:List (Str×NameKind)->List (Str×Addr)->List (Str×Addr)->List (Str×Addr)
 |[],_,cs=>cs
 | (n,k)::r,cells,cs=>dW r cells (if k == .free then (match cells.lookup n with|some c=>(n,c)::cs|none=>cs)else cs)
theorem tW:∀(names:List (Str×NameKind))(cs:List (Str×Addr)),(∀y∈names,y.2=.free->(env.cells.lookup y.1).isSome=true) ->
    (do let mut cs:=cs
        for (name,kind)in names do
          if kind == .free then cs:=(name,←cellOf env name)::cs
        return cs:Sem (List (Str×Addr)))=pure (dW names env.cells cs):=by
  intro names;induction names with
  |nil=>intro cs _;rfl
  |cons y r ih=>
    intro cs h;obtain⟨n,k⟩:=y;have Rt:=λcs=>ih cs λy hy=>h y (mZ _ hy);by_cases hk:k=.free
    . subst hk;have hc:=h (n,.free) mX rfl;cases q:env.cells.lookup n with
      |none=>rw[q]at hc;cases hc
      |some c=>
        have e1:dW ((n,.free)::r) env.cells cs=dW r env.cells ((n,c)::cs):=by
          rw[dW,q];rfl
        rw[e1,←Rt ((n,c)::cs)];have e2:cellOf env n=pure c:=by unfold cellOf;rw[q]
        simp only[List.forIn_cons,beq_self_eq_true,if_true,e2];rfl
    . have hb:(k == NameKind.free)=false:=by simpa using hk
      have e1:dW ((n,k)::r) env.cells cs=dW r env.cells cs:=by rw[dW,hb];rfl
      rw[e1,←Rt cs];simp only[List.forIn_cons,hb,uV,if_false];rfl
theorem m7:∀(names:List (Str×NameKind))(cs:List (Str×Addr)),(∀y d,cs.lookup y=some d->cells.lookup y=some d)->(dW names cells cs).lookup x=some c->cells.lookup x=some c
 |[],cs,h,e=>h x c e
 | (n,k)::r,cs,h,e=>by
  rw[dW]at e;refine m7 r _ (λy d q=>?_) e;split at q
  ·split at q
   ·rename_i c' ec;rw[List.lookup_cons]at q;split at q
    ·rename_i hy;cases q
     rw[eq_of_beq hy];exact ec
    ·exact h y d q
   ·exact h y d q
  ·exact h y d q
theorem tX:∀(names:List (Str×NameKind))(cs:List (Str×Addr)),(cs.lookup x).isSome=true->((dW names cells cs).lookup x).isSome=true
 |[],cs,h=>h
 | (n,k)::r,cs,h=>by
  rw[dW];refine tX r _ ?_;split
  ·split
   ·rw[List.lookup_cons];split
    ·rfl
    ·exact h
   ·exact h
  ·exact h
theorem m8:∀(names:List (Str×NameKind))(cs:List (Str×Addr)),(x,NameKind.free)∈names->(cells.lookup x).isSome=true->((dW names cells cs).lookup x).isSome=true
 | (n,k)::r,cs,hm,hc=>by
  rw[dW];rcases vP hm with e|e
  ·cases e
   refine tX r _ ?_;cases q:cells.lookup x with
   |none=>rw[q]at hc;cases hc
   |some c=>simp
  ·exact m8 r _ e hc
theorem gh {α:Type}{x:Str}{k:α}:∀ {l:List (Str×α)},l.lookup x=some k->(x,k)∈l
 | (n,j)::r,h=>by
  rw[List.lookup_cons]at h;split at h
  ·rename_i e;cases h
   rw[eq_of_beq e];exact mX
  ·exact mZ _ (gh h)
theorem Nk {X:Cx}{scope:Scope}(h1:∀y∈scope.names,y.2≠.cell)(h2:scope.kind=.function)(h3:∀y∈scope.names,y.2=.local->scope.names.lookup y.1=some .local)(Pp:(scope.names.all λy=>!(y.2 == NameKind.free) || (X.env.cells.lookup y.1).isSome)=true):
  CompSc X scope (dW scope.names X.env.cells []):=by
 have h4:∀y∈scope.names,y.2=.free->(X.env.cells.lookup y.1).isSome=true:=λy hy e=>by
  have:=uR Pp y hy;rw[e]at this;simpa using this
 have frees:∀x,((relabel scope X.env).names.lookup x=some .cell∨(relabel scope X.env).names.lookup x=some .free)->(x,NameKind.free)∈scope.names:=λx h=>by
  have:∃k,(x,k)∈(relabel scope X.env).names/\(k=.cell∨k=.free):=by
   rcases h with h|h
   ·exact⟨_,gh h,.inl rfl⟩
   ·exact⟨_,gh h,.inr rfl⟩
  obtain⟨k,hm,hk⟩:=this;obtain⟨⟨n,j⟩,hj,e⟩:=vO hm;dsimp only at e;split at e
  ·rename_i hc;rw[vC,vC]at hc;cases e
   rw[←eq_of_beq hc.1.1];exact hj
  ·cases e
   rcases hk with rfl|rfl
   ·exact absurd rfl (h1 _ hj)
   ·exact hj
 exact⟨tW scope.names [] h4,h1,h2,h3,λx c e=>m7 scope.names [] (λy d q=>by cases q) e,λx h=>by
  have:=m8 (x:=x) scope.names [] (frees x h) (h4 _ (frees x h) rfl);exact uU this⟩
theorem pG {scope:Scope}{cells:List (Str×Addr)}{x:Str}(h:(x,NameKind.free)∈scope.names)(hc:(cells.lookup x).isSome=true):(dW scope.names cells []).lookup x=cells.lookup x:=by
 obtain⟨c,e⟩:=uU (m8 (x:=x) scope.names [] h hc);rw[e,m7 scope.names [] (λy d q=>by cases q) e]
noncomputable def tm (nT:Nat)(cap:List Nat)(σ:St):St:=List.replicate nT none++cap.map λi=>(σ[i]?).join
noncomputable def cH (nT:Nat)(cap:List Nat)(ρ:Env):Env:=List.replicate nT none++cap.map λi=>match ρ[i]? with|some (some (d,_))=>some (d,false)|_=>none
theorem wy {α:Type}{nT:Nat}{cap:List Nat}{f:Nat->Option α}{j:Nat}{v:α}(h:(List.replicate nT none++cap.map f)[j]? = some (some v)):∃k i,j=nT+k/\cap[k]? = some i/\f i=some v:=by
 by_cases hj:j<nT
 ·rw[List.getElem?_append_left (by simpa using hj),List.getElem?_replicate,if_pos hj]at h;cases h
 ·rw[List.getElem?_append_right (by simpa using Nat.not_lt.mp hj),List.length_replicate,vA]at h;obtain⟨i,h1,h2⟩:=oY h;exact⟨j - nT,i,by omega,h1,h2⟩
theorem Jm {α:Type}{nT:Nat}{cap:List Nat}{f:Nat->Option α}{k i:Nat}{v:α}(h1:cap[k]? = some i)(h2:f i=some v):(List.replicate nT none++cap.map f)[nT+k]? = some (some v):=by
 rw[List.getElem?_append_right (by simp),List.length_replicate,vA,Nat.add_sub_cancel_left,h1];simp[h2]
theorem fM.caps {K:PySem.W.Frag}{B:Hp}{σ:St}{ρ:Env}{nT:Nat}{cap:List Nat}(h:fM K B σ ρ):fM K B (tm nT cap σ) (cH nT cap ρ):=⟨h.tb,λj d b q=>by
 obtain⟨k,i,rfl,h1,h2⟩:=wy q;split at h2
 ·rename_i d' b' e;cases h2
  obtain⟨v,g1,g2⟩:=h.at' i _ _ e;exact⟨v,Jm h1 (by rw[g1];rfl),g2⟩
 ·cases h2⟩
noncomputable def ir (tg:FG)(c:FT)(fe:FE)(ρ:Env):List D->Option (List D)
 |[]=>some []
 |d::r=>(tg d ρ).bind λρ1=>(c ρ1).bind λb=>if b=true then (fe ρ1).bind λx=>(ir tg c fe ρ r).map (x.1 :: ·)else ir tg c fe ρ r
@[simp] theorem OW (tg:FG)(c:FT)(fe:FE)(ρ:Env):ir tg c fe ρ []=some []:=by rw[ir]
@[simp] theorem A9 (tg:FG)(c:FT)(fe:FE)(ρ:Env)(d:D)(r:List D):ir tg c fe ρ (d::r)=(tg d ρ).bind λρ1=>(c ρ1).bind λb=>if b=true then (fe ρ1).bind λx=>(ir tg c fe ρ r).map (x.1 :: ·)else ir tg c fe ρ r:=by rw[ir]
@[simp] def bL (fi:FA)(nT:Nat)(cap:List Nat)(tg:FG)(c:FT)(fe:FE):FE:=λρ=>(fi ρ).bind λitems=>if items.length<=sizeLine then (ir tg c fe (cH nT cap ρ) items).map λds=>(.lst ds,true)else none
def Nl (K:PySem.W.Frag)(n:Nat)(tg:FG)(g:TG):Prop:=∀(B H:Hp)(σ:St)(ρ ρ1:Env)(v:V)(d:D)(Q:St->Hp->Prop),(∀i,i<n->ρ[i]? = some none)->fM K B σ ρ->aV B H->Is K B v d->tg d ρ=some ρ1 ->
 ρ.length=σ.length->(∀σ1,fM K B σ1 ρ1->(∀B',fM K B' σ ρ->fM K B' σ1 ρ)->ρ.length=σ1.length->Q σ1 H)->g v σ H Q
theorem yf {K:PySem.W.Frag}{n i:Nat}(hi:i<n):Nl K n (dq i) (jX i):=by
 intro B H σ ρ ρ1 v d Q cl rep s h e hl k;cases e
 have E8:i<σ.length:=by
  have:=(vV (cl i hi)).1;omega
 refine k _ ⟨rep.tb,λj e b q=>?_⟩ ?_ (by simpa using hl)
 ·rcases cn q with⟨rfl,p⟩|⟨ne,p⟩
  ·cases p
   exact⟨v,by simp[E8],h⟩
  ·obtain⟨w,h1,h2⟩:=rep.at' j e b p;exact⟨w,by rw[vB ne];exact h1,h2⟩
 ·intro B' Ru;refine⟨Ru.tb,λj e b q=>?_⟩;obtain⟨w,h1,h2⟩:=Ru.at' j e b q;have ne:i≠j:=λz=>by subst z;rw[cl i hi]at q;cases q
  exact⟨w,by rw[vB ne];exact h1,h2⟩
def JC (X:Cx)(xC:List Expr)(c:FT):Prop:=∀(ae:List (Addr×Obj))(s:Shared)(σ:St)(H:Hp)(Q:Bool->Hp->Prop),Inv X ae σ H s->D8 X.K c σ H Q ->
 wpAny (model X.prog X.w) X.A (forIn xC true λc r=>if r=true then do let ok ←isTrue c X.env (eval c X.env);pure (ForInStep.yield ok)else pure (ForInStep.yield r)) (TP X ae σ Q) X.xe s
@[simp] noncomputable def fY:FT:=λ_=>some true
theorem jd:JC X [] fY:=by
 intro ae s σ H Q I h;obtain⟨B,ρ,c,sB,rep,e,q⟩:=h;cases e
 exact wpAny_tests_nil ⟨H,I,q H (.refl H)⟩
theorem eP (h:JT X e f):JC X [e] f:=λae s σ H Q I q=>wpAny_tests_one (h ae s σ H Q I q)
theorem qh {X:Cx}(lM:X.calm=true){tg dr zZ:Expr}{xC:List Expr}{scope:Scope}{pos:Pos}{cl:List (Str×Addr)}{N':List Str}{nT:Nat}{cap:List Nat}{sU:FG}{g:TG}{fc:FT}{fe:FE}
  (S:CompSc X scope cl) (cp:nL X N' scope cl nT cap)
  (hg:∀C s H fp,PG (fQ X N' scope cl C s H fp) tg g) (KS:Nl X.K nT sU g) (hc:∀C s H fp,JC (fQ X N' scope cl C s H fp) xC fc) (he:∀C s H fp,JE (fQ X N' scope cl C s H fp) zZ fe)
  {ae:List (Addr×Obj)}{σ:St}{H2:Hp}{s2:Shared}{it:Addr}{fp:List Addr}{tn:Nat->Heap->Prop}{J:It}{N1:Hp}{ρ:Env}{items ds:List D}{E:Value->Shared->Prop}
  (I2:Inv X ae σ H2 s2) (T:Turn X.prog X.w X.K tg J fp it tn) (KG:tn 0 s2.heap) (f2:∀b∈fp,nO X ae H2 b)
  (rep:fM X.K N1 σ ρ) (sN:aV N1 H2) (J1:p9 X.K J N1 items) (hsz:items.length<=sizeLine) (ec:ir sU fc fe (cH nT cap ρ) items=some ds) {RR:Value->Addr->Result->Shared->Prop}
  (Ym:∀(Dd C:Addr)(s':Shared)(H' N:Hp)(vs:List V)(m:Str->Option Value),H2 Dd=none->Inv X ae σ H' s'->s'.heap.Ns C m->nO X ae H' C->Ext N1 N H2 H'->N Dd=some (.lst vs)->IsL X.K N vs ds->RR (.ref Dd) C (.ok .next) s'):
  wpAny (model X.prog X.w) X.A (newList []) (λmn s₃=>wpAny (model X.prog X.w) X.A (newFunctionEnv scope X.env.globals cl [] X.env.qual none .none (some X.env)) (λRv s₄=>
   codeAny (model X.prog X.w) X.A (.compStart (.ListComp zZ [⟨tg,dr,xC,0⟩] scope pos) 0 (.ref it) mn { Rv with scope:=relabel scope X.env }) (RR mn Rv.locals) s₄) E s₃) E s2:=by
 refine wpAny_newObj_type (wpAny_newFunctionEnv S.nocell (by intro y hy;simp at hy) (λh₁ BA hsb₁=>?_) S.kind);dsimp only at BA hsb₁ ⊢;have hD:H2 s2.heap.objs.size=none:=I2.fresh;have I3:Inv X ae σ (upd H2 s2.heap.objs.size (.lst [])) { s2 with heap:=s2.heap.push { cls:=.type "list",dict:=none,data:=.seq ([]:List Value).toArray } }:=I2.lnew (t':=s2.toks) (ys:=[]) (its:=[]) .nil (uN _);generalize hH3:s2.heap.push { cls:=.type "list",dict:=none,data:=.seq ([]:List Value).toArray }=g3 at BA hsb₁ I3 ⊢;have hC:g3.objs.size=s2.heap.objs.size+1:=by rw[←hH3,Heap.size_push]
 have KU:∀b o,s2.heap.get? b=some o->g3.get? b=some o:=λb o e=>hH3 ▸ vZ _ e;have EC:∀b o,g3.get? b=some o->h₁.get? b=some o:=λb o e=>hsb₁.extBut b o (vS (vX e)) (vZ _ e);have Pj:∀b o,g3.get? b=some o->b≠g3.objs.size:=λb o e=>vS (vX e);have Wk:∀b∈fp,∃o,s2.heap.get? b=some o:=λb hb=>let ⟨o,e,_⟩:=T.obj 0 s2.heap KG b hb;⟨o,e⟩;have Yn:∀b∈fp,b≠s2.heap.objs.size:=λb hb=>let ⟨o,e⟩:=Wk b hb;vS (vX e);have Wl:∀b∈fp,b≠g3.objs.size:=λb hb=>let ⟨o,e⟩:=Wk b hb;Pj b o (KU b o e);have Wm:∀x c,X.env.cells.lookup x=some c->c≠g3.objs.size:=λx c e=>by
  obtain⟨v,z⟩:=I3.cell x c e;exact vS z.lt
 have Yo:(upd H2 s2.heap.objs.size (HO.lst [])) g3.objs.size=none:=I3.hok.fresh (vT _);have stk:∀b∈Ds X.stack,∃o,s2.heap.get? b=some o:=λb hb=>by
  obtain⟨_,o,ho,_⟩:=(I2.stack).mem hb;exact⟨o,ho⟩
 -- the block's context
 have ok:(fQ X N' scope cl g3.objs.size { s2 with heap:=g3 } (upd H2 s2.heap.objs.size (.lst [])) fp).Ok:=by
  refine⟨I2.ok.mod,?_,I2.ok.glob,I2.ok.blt,vT _,λx y c e1 e2=>I2.ok.inj x y c (S.sub x c e1) (S.sub y c e2),λx h=>S.has x h,λx c h=>absurd h uX,I2.ok.hd,I2.ok.frames,.inl rfl,λb hb=>⟨Wl b hb,λx c e=>(f2 b hb).2.2.2.2.1 x c (S.sub x c e)⟩,λb o e=>?_,?_,λb o e hb=>?_,λb hb hz=>?_,I3.stack,λb hb=>I3.stkFree b hb⟩
  ·show(relabel scope X.env).kind=.function;exact S.kind
  ·exact I3.bs b o e
  ·exact vR I3.ok.bsz I3.sz
  ·have h1:=(f2 b hb).2.2.2.1;rcases h1 with z|z
   ·exact I2.ok.noex b o e z
   ·exact absurd (vQ (vX e) (vR I2.ok.bsz z)) (Nat.lt_irrefl _)
  ·rcases vP (I2.stkSub b hz)with z|z
   ·exact(f2 b hb).2.1 z
   ·exact(f2 b hb).2.2.1 z
 have I4:Inv (fQ X N' scope cl g3.objs.size { s2 with heap:=g3 } (upd H2 s2.heap.objs.size (.lst [])) fp) [] (tm nT cap σ) (upd H2 s2.heap.objs.size (.lst [])) { s2 with heap:=h₁,toks:=s2.toks+([]:List (Str×Value)).length }:=by
  refine⟨ok,rfl,I2.bare,Un.kept EC,⟨_,BA,λj x v e1 e2 e3=>?_⟩,λx c e=>?_,Yo,λx c e=>I3.freeC x c (S.sub x c e),λp hp=>by simp at hp,I3.hok.kept EC,?_⟩
  ·obtain⟨k,i,rfl,h1,h2⟩:=wy e2;obtain⟨y,g1,g2,Wn,g4,g5⟩:=cp.get h1;have Mg:N'[nT+k]? = some x:=e1;rw[g1]at Mg;cases Mg;have EB:σ[i]? = some (some v):=by
    cases q:σ[i]? with
    |none=>rw[q]at h2;cases h2
    |some z=>rw[q]at h2;have:z=some v:=h2;rw[this]
   obtain⟨m,_,hl⟩:=I3.loc;obtain⟨u,r,l⟩:=hl i _ v g2 EB (Wn.elim (λz=>.inr (.inl z)) λz=>.inr (.inr z));refine⟨u,r,?_⟩;rcases l with⟨l,_⟩|⟨_,c,lc,ic⟩
   ·rcases Wn with z|z<;>(rw[z]at l;cases l)
   ·refine .inr ⟨g4,c,by show cl.lookup _=some c;rw[g5];exact lc,?_⟩;obtain⟨o,ho,hd⟩:=ic;exact⟨o,EC _ _ ho,hd⟩
  ·obtain⟨v,o,ho,hd⟩:=I3.cell x c (S.sub x c e);exact⟨v,o,EC _ _ ho,hd⟩
  ·show(tm nT cap σ).length=N'.length;unfold tm;rw[cp.len];simp
 have U2:∀ {H':Hp},(∀b∈fp,H' b=none)->∀b∈fp,nO (fQ X N' scope cl g3.objs.size { s2 with heap:=g3 } (upd H2 s2.heap.objs.size (.lst [])) fp) [] H' b:=λhn b hb=>
  ⟨hn b hb,Wl b hb,ok.exfs b hb,.inl hb,λx c e=>(f2 b hb).2.2.2.2.1 x c (S.sub x c e),λp hp=>by simp at hp⟩
 have Rw:∀i,i<nT->(cH nT cap ρ)[i]? = some none:=λi hi=>by
  unfold cH;rw[List.getElem?_append_left (by simpa using hi),List.getElem?_replicate,if_pos hi]
 have Wo:N1 s2.heap.objs.size=none:=sN.free hD;have loop:∀s₃:Shared,s₃={ s2 with heap:=h₁,toks:=s2.toks+([]:List (Str×Value)).length } ->
   codeAny (model X.prog X.w) X.A (.compLoop (.ListComp zZ [⟨tg,dr,xC,0⟩] scope pos) 0 (.ref it) (.ref s2.heap.objs.size) (compEnvC scope cl g3.objs.size X.env)) (RR (.ref s2.heap.objs.size) g3.objs.size) s₃:=by
  rintro s₃ rfl;refine wx (λn s'=>∃(i:Nat)(N:Hp)(vs:List V)(es:List D)(σ':St)(H':Hp),Inv (fQ X N' scope cl g3.objs.size { s2 with heap:=g3 } (upd H2 s2.heap.objs.size (.lst [])) fp) [] σ' H' s'/\tn i s'.heap/\(∀b∈fp,H' b=none) /\
   n=items.length - i/\i<=items.length/\fM X.K N1 σ' (cH nT cap ρ)/\(cH nT cap ρ).length=σ'.length/\Ext N1 N H2 H'/\N s2.heap.objs.size=none/\H' s2.heap.objs.size=some (.lst vs)/\vs.length<=i/\IsL X.K N vs es /\
   ∃r,ir sU fc fe (cH nT cap ρ) (items.drop i)=some r/\es++r=ds) ?_ items.length ?_
  ·rintro n s' ⟨i,N,vs,es,σ',H',I',ti,hn,rfl,hi,rp,bK,x,U3,U4,Aa,U5,r,er,SI⟩;have sH:aV N1 H':=x.bn.trans x.nh;by_cases fN:i<items.length
   ·obtain⟨j1,_⟩:=J1 i H' sH;obtain⟨go,yl⟩:=j1 items[i] (by simp[fN]);rw[List.drop_eq_getElem_cons fN]at er;unfold ir at er;obtain⟨ρ1,e1,er⟩:=oX er;obtain⟨b,e2,er⟩:=oX er;refine cY (T.item (fQ X N' scope cl g3.objs.size { s2 with heap:=g3 } (upd H2 s2.heap.objs.size (.lst [])) fp) rfl rfl rfl lM i [] s' σ' H' (λ_ _=>False) I' (U2 hn) ti go) λq s4 hq=>?_;obtain⟨u,rfl,hq⟩:=hq;refine cY hq λ_ s5 hq=>?_;obtain⟨xv,H5,I5,rx,y5,t5,Uq⟩:=hq;obtain⟨N5,x5,i5⟩:=yl xv H5 y5
    -- all that may be named at this KH
    have x6:Ext N (join N N5) H' H5:=by
     refine⟨x5.hh,fm,λa o e=>?_,λa o e=>?_⟩
     ·cases z:N a with
      |some u'=>rw[fm _ _ z]at e;cases e;exact x5.hh _ _ (x.nh _ _ z)
      |none=>rw[eK z]at e;exact x5.nh _ _ e
     ·cases z:N a with
      |some u'=>rw[fm _ _ z]at e;cases e;exact .inl rfl
      |none=>
       rw[eK z]at e;rcases x5.new a o e with z'|z'
       ·rw[x.bn _ _ z']at z;cases z
       ·exact .inr z'
    have c5:aV N5 (join N N5):=λa o e=>by
     rcases x5.new a o e with z|z
     ·exact fm _ _ (x.bn _ _ z)
     ·rw[eK (x.nh.free z)];exact e
    have Wp:(join N N5) s2.heap.objs.size=none:=by
     cases z:join N N5 s2.heap.objs.size with
     |none=>rfl
     |some o=>
      rcases x6.new _ _ z with z'|z'
      ·rw[U3]at z';cases z'
      ·rw[U4]at z';cases z'
    have mo:∀(s9:Shared)(σ9:St)(H9 N9:Hp)(Ry:List V)(SJ:List D),Inv (fQ X N' scope cl g3.objs.size { s2 with heap:=g3 } (upd H2 s2.heap.objs.size (.lst [])) fp) (nQ fp s5.heap) σ9 H9 s9 ->
      fM X.K N1 σ9 (cH nT cap ρ)->(cH nT cap ρ).length=σ9.length->Ext N1 N9 H2 H9->N9 s2.heap.objs.size=none->H9 s2.heap.objs.size=some (.lst Ry)->Ry.length<=i+1->IsL X.K N9 Ry SJ ->
      (∃r,ir sU fc fe (cH nT cap ρ) (items.drop (i+1))=some r/\SJ++r=ds)->∃m,m<items.length - i/\∃(i:Nat)(N:Hp)(vs:List V)(es:List D)(σ':St)(H':Hp),Inv (fQ X N' scope cl g3.objs.size { s2 with heap:=g3 } (upd H2 s2.heap.objs.size (.lst [])) fp) [] σ' H' s9/\tn i s9.heap/\(∀b∈fp,H' b=none) /\
       m=items.length - i/\i<=items.length/\fM X.K N1 σ' (cH nT cap ρ)/\(cH nT cap ρ).length=σ'.length/\Ext N1 N H2 H'/\N s2.heap.objs.size=none/\H' s2.heap.objs.size=some (.lst vs)/\vs.length<=i/\IsL X.K N vs es /\
       ∃r,ir sU fc fe (cH nT cap ρ) (items.drop i)=some r/\es++r=ds:=λs9 σ9 H9 N9 Ry SJ I9 Yp l9 x9 n9 h9 v9 i9 Yq=>by
     refine⟨items.length - (i+1),by omega,i+1,N9,Ry,SJ,σ9,H9,I9.pins_of λp hp=>by simp at hp,T.keep _ _ _ t5 λb hb o e=>(I9.pin (b,o) (mY _ (jH hb e))).1,λb hb=>?_,rfl,fN,Yp,l9,x9,n9,h9,v9,i9,Yq⟩;obtain⟨o,e,d⟩:=T.obj _ _ t5 b hb;exact(I9.pin (b,o) (mY _ (jH hb e))).2.1
    have Ur:Inv (fQ X N' scope cl g3.objs.size { s2 with heap:=g3 } (upd H2 s2.heap.objs.size (.lst [])) fp) (nQ fp s5.heap) σ' H5 s5:=by
     have:=I5.pinned (U2 Uq) (T.obj _ _ t5);rwa [List.nil_append]at this
    have SK:aV (join N N5) H5:=x6.nh;refine cY (hg _ _ _ _ _ s5 σ' H5 xv u (λσ6 H6=>H6=H5/\fM X.K (join N N5) σ6 ρ1/\fM X.K N1 σ6 (cH nT cap ρ)/\(cH nT cap ρ).length=σ6.length) Ur rx ?_) λ_ s6 ⟨σ6,H6,I6,eH,Wq,Wr,l6⟩=>?_
    ·refine KS (join N N5) H5 σ' (cH nT cap ρ) ρ1 xv items[i] _ Rw (rp.mono (x.bn.trans fm)) SK (i5.mono c5) e1 bK λσ1 r1 r2 l1=>⟨rfl,r1,r2 N1 rp,l1⟩
    ·subst eH;have U6:H6 s2.heap.objs.size=some (.lst vs):=x5.hh _ _ U4;refine cY (hc _ _ _ _ _ s6 σ6 H6 (λc H7=>c=b/\aV H6 H7) I6 ⟨join N N5,ρ1,b,SK,Wq,e2,λH7 h7=>⟨rfl,h7⟩⟩) λok s7 ⟨H7,I7,eb,h7⟩=>?_;subst eb;have x7:Ext N1 (join N N5) H2 H7:=(x.trans x6).trans (.grow SK h7);cases ok with
     |false=>
      rw[if_neg (by decide)]at er ⊢;exact mo s7 σ6 H7 (join N N5) vs es I7 Wr l6 x7 Wp (h7 _ _ U6) (Nat.le_succ_of_le Aa) (U5.mono fm) ⟨r,er,SI⟩
     |true=>
      rw[if_pos rfl]at er ⊢;obtain⟨y,e3,er⟩:=oX er;obtain⟨r',e4,er⟩:=oY er;subst er;refine cY (he _ _ _ _ _ s7 σ6 H7 (λv H8=>∃N8,Ext (join N N5) N8 H7 H8/\Is X.K N8 v y.1) I7 ⟨join N N5,ρ1,y.1,y.2,SK.trans h7,Wq,e3,λv H8 N8 x8 i8 _=>⟨N8,x8,i8⟩⟩) λw8 s8 ⟨v8,H8,I8,r8,N8,x8,i8⟩=>?_;have Yr:H8 s2.heap.objs.size=some (.lst vs):=x8.hh _ _ (h7 _ _ U6);refine cY (tS _ s8 σ6 H8 (.ref s2.heap.objs.size) [v8] (.ref s2.heap.objs.size) [w8] (λ_ H9=>H9=upd H8 s2.heap.objs.size (.lst (vs++[v8]))) I8 rfl (.cons r8 .nil) ⟨_,vs,v8,rfl,rfl,Yr,by omega,rfl⟩) λ_ s9 ⟨_,H9,I9,_,e9⟩=>?_;subst e9;have Ws:N8 s2.heap.objs.size=none:=by
       cases z:N8 s2.heap.objs.size with
       |none=>rfl
       |some o=>
        rcases x8.new _ _ z with z'|z'
        ·rw[Wp]at z';cases z'
        ·rw[h7 _ _ U6]at z';cases z'
      refine mo s9 σ6 _ N8 (vs++[v8]) (es++[y.1]) I9 Wr l6 ((x7.trans x8).upd hD Ws) Ws aG (by rw[uZ,List.length_singleton];omega) ((U5.mono (fm.trans x8.bn)).append (.cons i8 .nil)) ⟨r',e4,by rw[List.append_assoc];exact SI⟩
   ·have ei:i=items.length:=by omega
    subst ei;rw[List.drop_eq_nil_of_le (vT _)]at er;cases er
    rw[uQ]at SI;subst SI;refine cY (T.done (fQ X N' scope cl g3.objs.size { s2 with heap:=g3 } (upd H2 s2.heap.objs.size (.lst [])) fp) rfl rfl rfl lM items.length [] s' σ' H' (λ_ _=>False) I' (U2 hn) ti ((J1 _ H' sH).2 (vT _))) λq s4 ⟨hq,I9⟩=>?_;subst hq;obtain⟨m,hm,_⟩:=I9.loc;have u1:Un (Ds X.stack) fp H2 (upd H2 s2.heap.objs.size (.lst [])) s2.heap g3:=Un.laid KU (vT _) hD;have x9:Ext N1 (upd N s2.heap.objs.size (.lst vs)) H2 H':=by
     refine⟨x.hh,x.bn.trans λa o e=>by rw[aK (λz=>by subst z;rw[U3]at e;cases e)];exact e,λa o e=>?_,λa o e=>?_⟩
     ·by_cases z:a=s2.heap.objs.size
      ·subst z;rw[aG]at e;cases e;exact U4
      ·rw[aK z]at e;exact x.nh _ _ e
     ·by_cases z:a=s2.heap.objs.size
      ·subst z;exact .inr hD
      ·rw[aK z]at e;exact x.new _ _ e
    refine Ym s2.heap.objs.size g3.objs.size s4 H' (upd N s2.heap.objs.size (.lst vs)) vs m hD (I2.call' (ch:=fp) I9.os (u1.trans I9.base) I9.hok I9.bare λb hb=>⟨(f2 b hb).2.2.2.1,(f2 b hb).2.1,(f2 b hb).2.2.2.2.1,(f2 b hb).2.2.2.2.2⟩) hm (I2.fpOk (by rw[hC];exact Nat.le_succ _) I9.free) x9 aG
     (U5.mono λa o e=>by rw[aK (λz=>by subst z;rw[U3]at e;cases e)];exact e)
  ·refine⟨0,N1,[],[],tm nT cap σ,_,I4,T.keep _ _ _ KG λb hb o e=>EC _ _ (KU _ _ e),λb hb=>?_,rfl,uN _,rep.caps,?_,(Ext.refl sN).upd hD Wo,Wo,aG,uN _,.nil,ds,by simpa using ec,rfl⟩
   ·rw[aK (Yn b hb)];exact(f2 b hb).1
   ·unfold cH tm;simp
 exact codeAny_compStart_list (loop _ rfl) (T.self _ 0 _ _ _ (T.keep _ _ _ KG λb hb o e=>EC _ _ (KU _ _ e)) (loop _ rfl))
theorem Jn (lM:X.calm=true) 
  (S:CompSc X scope cl) (cp:nL X N' scope cl nT cap) (hi:JI X tg dr fi)
  (hg:∀C s H fp,PG (fQ X N' scope cl C s H fp) tg g) (KS:Nl X.K nT sU g) (hc:∀C s H fp,JC (fQ X N' scope cl C s H fp) xC fc) (he:∀C s H fp,JE (fQ X N' scope cl C s H fp) zZ fe)
  (hs:∀x,foldedSetIterable dr X.env x=pure x:=by intro _;rfl):
  JE X (.ListComp zZ [⟨tg,dr,xC,0⟩] scope pos) (bL fi nT cap sU fc fe):=by
 intro ae s σ H Q I h;obtain⟨B,ρ,d,b,sB,rep,e,q⟩:=h;obtain⟨items,ei,e⟩:=oX e;have hsz:items.length<=sizeLine:=Decidable.byContradiction λz=>by rw[if_neg z]at e;cases e
 rw[if_pos hsz]at e;obtain⟨ds,ec,e⟩:=oY e;cases e
 rw[eval_ListComp];refine wpAny_comprehension_free (use:=none) rfl hs S.clos S.kind S.names (cY (hi ae s σ H (λJ H2=>∃N1,Ext B N1 H H2/\p9 X.K J N1 items) I ⟨B,ρ,items,sB,rep,ei,λJ H2 N1 x1 j1=>⟨N1,x1,j1⟩⟩) λv s1 h1=>cY h1 λSD s2 h2=>?_);obtain⟨it,fp,tn,J,H2,e,I2,T,KG,f2,N1,x1,j1⟩:=h2;subst e;refine qh lM S cp hg KS hc he I2 T KG f2 (rep.mono x1.bn) x1.nh j1 hsz ec (RR:=λmn C=>compPost (model X.prog X.w) X.A X.xe none (EP X ae σ Q) mn C) ?_;intro Dd C s' H' N vs m hD I' hm fC x hN hl;refine⟨m,hm,λh' hs'=>⟨.ref Dd,H',?_,rfl,q _ H' N (x1.trans x) (.lst (iP.of hN) hl) λ_=>⟨Dd,vs,ds,rfl,rfl,x1.hh.free hD,hN,hl⟩⟩⟩;obtain⟨c0,c1,c2,c3,c4,c5⟩:=fC;exact I'.turned (t':=s'.toks) (λb o hb e=>(hs'.2 b hb).trans e) c0 c1 c3 c4 c5
theorem Jo (lM:X.calm=true) 
  (hN:X.N.Nodup) (ED:X.N[i]? = some y) (hy:X.env.kindOf y=some .local)
  (Rz:swapsWith (.ListComp zZ [⟨tg,dr,xC,0⟩] scope pos) (some (.Name y py)) spos.line X.env=pure true)
  (S:CompSc X scope cl) (cp:nL X N' scope cl nT cap) (hi:JI X tg dr fi)
  (hg:∀C s H fp,PG (fQ X N' scope cl C s H fp) tg g) (KS:Nl X.K nT sU g) (hc:∀C s H fp,JC (fQ X N' scope cl C s H fp) xC fc) (he:∀C s H fp,JE (fQ X N' scope cl C s H fp) zZ fe)
  (hs:∀x,foldedSetIterable dr X.env x=pure x:=by intro _;rfl):
  JS X (.Assign [.Name y py] (.ListComp zZ [⟨tg,dr,xC,0⟩] scope pos) spos) (aO i (bL fi nT cap sU fc fe)):=by
 intro ae s σ H E I h;have h2:xQ (tD X.K (bL fi nT cap sU fc fe)) (jX i) E σ H:=BJ h;obtain⟨B,ρ,d,b,sB,rep,e,q⟩:=h2;obtain⟨items,ei,e⟩:=oX e;have hsz:items.length<=sizeLine:=Decidable.byContradiction λz=>by rw[if_neg z]at e;cases e
 rw[if_pos hsz]at e;obtain⟨ds,ec,e⟩:=oY e;cases e
 rw[exec_Assign_Name_used _ _ _ _ Rz];refine wX (wpAny_standAt (wX ?_));show wpAny _ _ (do let _ ←comprehension (.ListComp zZ [⟨tg,dr,xC,0⟩] scope pos) scope X.env _ (newList []) false (eval dr X.env) (some (assign (.Name y py) X.env))) _ _ s;refine wX (wpAny_mono (wpAny_comprehension_free (use:=some (assign (.Name y py) X.env)) (Q:=λ_ s'=>SP X ae E .next s') rfl hs S.clos S.kind S.names
  (cY (hi ae s σ H (λJ H2=>∃N1,Ext B N1 H H2/\p9 X.K J N1 items) I ⟨B,ρ,items,sB,rep,ei,λJ H2 N1 x1 j1=>⟨N1,x1,j1⟩⟩) λv s1 h1=>cY h1 λSD s2 h2=>?_)) (λ_ s' hq=>wY (wY hq)) λ_ _ e=>e)
 obtain⟨it,fp,tn,J,H2,e,I2,T,KG,f2,N1,x1,j1⟩:=h2;subst e;refine qh lM S cp hg KS hc he I2 T KG f2 (rep.mono x1.bn) x1.nh j1 hsz ec (RR:=λmn C=>compPost (model X.prog X.w) X.A X.xe (some (assign (.Name y py) X.env)) (λ_ s'=>SP X ae E .next s') mn C) ?_;intro Dd C s' H' N vs m hD I' hm fC x Wt hl;show wpAny _ _ (assign (.Name y py) X.env (.ref Dd)) _ _ s';obtain⟨c0,c1,c2,c3,c4,c5⟩:=fC;refine wpAny_assign_Name (tK I' hN ED (.inl hy) (r:=show ba (.ref Dd) (.ref Dd)from rfl) (λs9 I9 ⟨a,sb,ha⟩=>?_) (.inr hy));have nC:C≠a:=by
  rcases ha with z|z
  ·rw[z];exact c1
  ·exact λw=>c4 y a z w.symm
 refine⟨m,hm.sameBut sb nC,λh' hs'=>⟨_,H',?_,q _ H' N (x1.trans x) (.lst (iP.of Wt) hl) λ_=>⟨Dd,vs,ds,rfl,rfl,x1.hh.free hD,Wt,hl⟩⟩⟩;exact I9.turned (t':=s9.toks) (λb o hb e=>(hs'.2 b hb).trans e) c0 c1 c3 c4 c5
section
variable {X:Cx}{a b c e:Expr}{pos:Pos}
theorem PE.to (h:PE X e t)(k:∀σ H Q,t' σ H Q->t σ H Q):PE X e t':=λae s σ H Q I q=>h ae s σ H Q I (k σ H Q q)
theorem PT.to (h:PT X e t)(k:∀σ H Q,t' σ H Q->t σ H Q):PT X e t':=λae s σ H Q I q=>h ae s σ H Q I (k σ H Q q)
theorem PW.to (h:PW X e t)(k:∀σ H Q,t' σ H Q->t σ H Q):PW X e t':=λwh ae s σ H Q I q=>h wh ae s σ H Q I (k σ H Q q)
theorem PA.to (h:PA X es t)(k:∀σ H Q,t' σ H Q->t σ H Q):PA X es t':=λpos ae s σ H Q I q=>h pos ae s σ H Q I (k σ H Q q)
theorem PS.to {st:Stmt}{t t':TS}(h:PS X st t)(k:∀E σ H,t' E σ H->t E σ H):PS X st t':=λae s σ H E I q=>h ae s σ H E I (k E σ H q)
theorem wa.to {st:List Stmt}{t t':TS}(h:wa X st t)(k:∀E σ H,t' E σ H->t E σ H):wa X st t':=λae s σ H E I q=>h ae s σ H E I (k E σ H q)
theorem PI.to (h:PI X tg it t)(k:∀σ H Q,t' σ H Q->t σ H Q):PI X tg it t':=λae s σ H Q I q=>h ae s σ H Q I (k σ H Q q)
theorem DA {K:PySem.W.Frag}{d:D}{v:V}(i:∀B,Is K B v d){σ:St}{H:Hp}{Q:VK}(h:tD K (fC d) σ H Q):tC v σ H Q:=by
 obtain⟨B,ρ,d',b,s,r,e,q⟩:=h;cases e
 exact q.one s (i B)
theorem ag (i:Nat)(hN:X.N[i]? = some x:=by rfl)(hv:EX X.env.scope x:=by first|exact Or.inl rfl|exact Or.inr (Or.inl rfl)|exact Or.inr (Or.inr rfl))(hd:(x == ("__debug__" : Str))=false:=by decide)
  (jG:(x == ("__classdict__" : Str))=false:=by decide):JE X (.Name x pos) (ai i):=PE.to (lO hN hv hd jG) λ_ _ _ h=>Ni h
theorem aw:JE X (.Constant (.int i) j pos) (fC (.int i)):=PE.to Mz λ_ _ _ h=>DA (λ_=>.int i) h
theorem jt:JE X (.Constant (.bool i) j pos) (fC (.bl i)):=PE.to PF λ_ _ _ h=>DA (λ_=>.bl i) h
theorem eQ:JE X (.Constant .none j pos) (fC .non):=PE.to M0 λ_ _ _ h=>DA (λ_=>.non) h
theorem aB:JE X (.Constant (.str x) j pos) (fC (.str x)):=PE.to M2 λ_ _ _ h=>DA (λ_=>.str x) h
theorem Jp (hg:Gl X x)(hm:X.mg x=some u)(r:ba v u)(i:∀B,Is X.K B v d)(hd:(x == ("__debug__" : Str))=false:=by decide):JE X (.Name x pos) (fC d):=PE.to (BC hg hm r hd) λ_ _ _ h=>DA i h
theorem ay (ho:dR X (binaryOp op) (rD X.K f))(ha:JE X a fa)(hb:JE X b fb):JE X (.BinOp a op b pos) (f2 f fa fb):=PE.to (Li ho ha hb) λ_ _ _ h=>Je h
theorem F6 (ho:Qd X (unaryOp op) (T3 X.K f))(ha:JE X a fa):JE X (.UnaryOp op a pos) (f1 f fa):=PE.to (Qe ho ha) λ_ _ _ h=>T4 h
theorem ce (ho:dR X (compareOp op) (rD X.K f))(ha:JE X a fa)(hb:JE X b fb)(hm:behindInMarks op b=false:=by first|exact jn _ (by decide) (by decide)|rfl):JE X (.Compare a [op] [b] pos) (f2 f fa fb):=PE.to (IN ho ha hb hm) λ_ _ _ h=>Je h
theorem AA {K:PySem.W.Frag}{f:FE}{σ:St}{H:Hp}{Q:Bool->Hp->Prop}(h:D8 K (bo f) σ H Q):tD K f σ H λx H'=>∃k,x=.bl k/\Q k H':=by
 obtain⟨B,ρ,c,s,r,e,q⟩:=h;unfold bo at e;split at e
 ·rename_i c' b' ef;cases e
  refine⟨B,ρ,.bl c,b',s,r,ef,λv H' N x i _=>?_⟩;cases i
  exact⟨c,rfl,q H' x.hh⟩
 ·cases e
theorem aL (ho:dR X (compareOp op) (rD X.K f))(ha:JE X a fa)(hb:JE X b fb)(hm:behindInMarks op b=false:=by first|exact jn _ (by decide) (by decide)|rfl):JT X (.Compare a [op] [b] pos) (bo (f2 f fa fb)) :=
 PT.to (IP ho ha hb hm) λ_ _ _ h=>Je (AA h)
theorem cf (h:JE X e f)(he:∀sJ,isTrue e X.env sJ=(do let v ←sJ;standAt e.pos;holding [v] (truthy v)):=by intro _;rfl):JT X e (bo f):=PT.to (M6 h he) λ_ _ _ q=>AA q
@[simp] noncomputable def nV (f g:D->D->Option (D×Bool))(fa fb fc:FE):FE:=λρ=>(fa ρ).bind λx=>(fb ρ).bind λy=>match f x.1 y.1 with
 |some (.bl true,_)=>(fc ρ).bind λz=>g y.1 z.1
 |some (.bl false,_)=>some (.bl false,false)
 |_=>none
theorem F7 {K:PySem.W.Frag}{f g:D->D->Option (D×Bool)}{fa fb fc:FE}{σ:St}{H:Hp}{Q:VK}(h:tD K (nV f g fa fb fc) σ H Q):Fe (rD K f) (rD K g) (tD K fa) (tD K fb) (tD K fc) σ H Q:=by
 obtain⟨B,ρ,d,b,s,r,e,q⟩:=h;obtain⟨x,ex,e⟩:=oX e;obtain⟨y,ey,e⟩:=oX e;refine⟨B,ρ,x.1,x.2,s,r,ex,λv H1 N1 x1 i1 _=>⟨N1,ρ,y.1,y.2,x1.nh,r.mono x1.bn,ey,λv2 H2 N2 x2 i2 _=>?_⟩⟩;split at e
 ·rename_i b' ef;obtain⟨z,ez,e⟩:=oX e;refine⟨N2,x.1,y.1,.bl true,b',x2.nh,i1.mono x2.bn,i2,ef,λv3 H3 N3 x3 i3 _=>?_⟩;cases i3
  refine⟨true,rfl,?_⟩;rw[if_pos rfl];refine⟨N3,ρ,z.1,z.2,x3.nh,r.mono (x1.bn.trans (x2.bn.trans x3.bn)),ez,λv4 H4 N4 x4 i4 _=>⟨N4,y.1,z.1,d,b,x4.nh,i2.mono (x3.bn.trans x4.bn),i4,e,?_⟩⟩;exact q.into ((x1.trans x2).trans (x3.trans x4))
 ·rename_i b' ef;cases e
  refine⟨N2,x.1,y.1,.bl false,b',x2.nh,i1.mono x2.bn,i2,ef,λv3 H3 N3 x3 i3 _=>?_⟩;cases i3
  refine⟨false,rfl,?_⟩;rw[if_neg (by decide)];exact(q.into ((x1.trans x2).trans x3)).one x3.nh (.bl false)
 ·cases e
theorem F8 (ho:dR X (compareOp op) (rD X.K f))(xB:dR X (compareOp Pm) (rD X.K g))(ha:JE X a fa)(hb:JE X b fb)(hc:JE X c fc)
  (hm:lastMarks [op,Pm] [b,c]=false:=by with_unfolding_all rfl):JE X (.Compare a [op,Pm] [b,c] pos) (nV f g fa fb fc):=PE.to (Ff ho xB ha hb hc hm) λ_ _ _ h=>F7 h
theorem Jq {K:PySem.W.Frag}{f g:FT}{σ:St}{H:Hp}{Q:Bool->Hp->Prop}(h:D8 K (dS f g) σ H Q):PJ (D8 K f) (D8 K g) σ H Q:=by
 obtain⟨B,ρ,c,s,r,e,q⟩:=h;unfold dS at e;cases ef:f ρ with
 |none=>rw[ef]at e;cases e
 |some k=>
  rw[ef]at e;refine⟨B,ρ,k,s,r,ef,λH1 h1=>?_⟩;cases k with
  |true=>rw[if_pos rfl];exact⟨B,ρ,c,s.trans h1,r,e,λH2 h2=>q H2 (h1.trans h2)⟩
  |false=>rw[if_neg (by decide)];cases e;exact q H1 h1
theorem Nm {K:PySem.W.Frag}{f g:FT}{σ:St}{H:Hp}{Q:Bool->Hp->Prop}(h:D8 K (jq f g) σ H Q):V0 (D8 K f) (D8 K g) σ H Q:=by
 obtain⟨B,ρ,c,s,r,e,q⟩:=h;unfold jq at e;cases ef:f ρ with
 |none=>rw[ef]at e;cases e
 |some k=>
  rw[ef]at e;refine⟨B,ρ,k,s,r,ef,λH1 h1=>?_⟩;cases k with
  |false=>rw[if_neg (by decide)];exact⟨B,ρ,c,s.trans h1,r,e,λH2 h2=>q H2 (h1.trans h2)⟩
  |true=>rw[if_pos rfl];cases e;exact q H1 h1
theorem Jr {K:PySem.W.Frag}{f:FT}{σ:St}{H:Hp}{Q:Bool->Hp->Prop}(h:D8 K (fJ f) σ H Q):PK (D8 K f) σ H Q:=by
 obtain⟨B,ρ,c,s,r,e,q⟩:=h;obtain⟨k,ek,e⟩:=oY e;subst e;exact⟨B,ρ,k,s,r,ek,λH1 h1=>q H1 h1⟩
variable {aF:List Expr}
theorem gD (ha:JT X a f):JW X (.BoolOp .And [a] pos) f:=IF ha
theorem k7 (ha:JT X a f):JW X (.BoolOp .Or [a] pos) f:=M7 ha
theorem iu (ha:JT X a f)(hb:JW X (.BoolOp .And (b::aF) pos) g):JW X (.BoolOp .And (a::b::aF) pos) (dS f g):=PW.to (M8 ha hb) λ_ _ _ h=>Jq h
theorem k8 (ha:JT X a f)(hb:JW X (.BoolOp .Or (b::aF) pos) g):JW X (.BoolOp .Or (a::b::aF) pos) (jq f g):=PW.to (PL ha hb) λ_ _ _ h=>Nm h
theorem km (h:JW X e f):JT X e f:=h.pt
theorem gk (ha:JT X a f):JT X (.UnaryOp .Not a pos) (fJ f):=PT.to (M9 ha) λ_ _ _ h=>Jr h
@[simp] noncomputable def jI (f g:FE):FE:=λρ=>match f ρ with|some (.bl true,_)=>g ρ|some (.bl false,_)=>some (.bl false,false)|_=>none
@[simp] noncomputable def Ip (f g:FE):FE:=λρ=>match f ρ with|some (.bl true,_)=>some (.bl true,false)|some (.bl false,_)=>g ρ|_=>none
@[simp] noncomputable def AB (f:FE):FE:=λρ=>match f ρ with|some (.bl c,_)=>some (.bl (!c),false)|_=>none
theorem gV (ha:JE X a f)(hb:JE X (.BoolOp .And (b::aF) pos) g):JE X (.BoolOp .And (a::b::aF) pos) (jI f g):=PE.to (MB ha hb) λσ H Q h=>by
 obtain⟨B,ρ,d,k,s,r,e,q⟩:=h;unfold jI at e;split at e
 ·rename_i b' ef;refine⟨B,ρ,_,_,s,r,ef,λv H1 N1 x1 i1 _=>?_⟩;cases i1
  refine⟨true,rfl,?_⟩;rw[if_pos rfl];exact⟨N1,ρ,d,k,x1.nh,r.mono x1.bn,e,q.into x1⟩
 ·rename_i b' ef;cases e
  refine⟨B,ρ,_,_,s,r,ef,λv H1 N1 x1 i1 _=>?_⟩;cases i1
  refine⟨false,rfl,?_⟩;rw[if_neg (by decide)];exact(q.into x1).one x1.nh (.bl false)
 ·cases e
theorem BK (ha:JE X a f)(hb:JE X (.BoolOp .Or (b::aF) pos) g):JE X (.BoolOp .Or (a::b::aF) pos) (Ip f g):=PE.to (PP ha hb) λσ H Q h=>by
 obtain⟨B,ρ,d,k,s,r,e,q⟩:=h;unfold Ip at e;split at e
 ·rename_i b' ef;cases e
  refine⟨B,ρ,_,_,s,r,ef,λv H1 N1 x1 i1 _=>?_⟩;cases i1
  refine⟨true,rfl,?_⟩;rw[if_pos rfl];exact(q.into x1).one x1.nh (.bl true)
 ·rename_i b' ef;refine⟨B,ρ,_,_,s,r,ef,λv H1 N1 x1 i1 _=>?_⟩;cases i1
  refine⟨false,rfl,?_⟩;rw[if_neg (by decide)];exact⟨N1,ρ,d,k,x1.nh,r.mono x1.bn,e,q.into x1⟩
 ·cases e
theorem ft (h:JE X a f):JE X (.BoolOp op [a] pos) f:=MA h
theorem Nn (ha:JE X a f):JE X (.UnaryOp .Not a pos) (AB f):=PE.to (MC ha) λσ H Q h=>by
 obtain⟨B,ρ,d,k,s,r,e,q⟩:=h;unfold AB at e;split at e
 ·rename_i c b' ef;cases e
  refine⟨B,ρ,_,_,s,r,ef,λv H1 N1 x1 i1 _=>?_⟩;cases i1
  exact⟨c,rfl,(q.into x1).one x1.nh (.bl _)⟩
 ·cases e
variable {es:List Expr}
theorem am:JA X [] aj:=PA.to kx λ_ _ _ h=>Jg h
theorem ah (ha:JE X e f)(hr:JA X es g)(hs:starEach (e::es) X.env=(false,eval e X.env)::starEach es X.env:=by rfl):JA X (e::es) (af f g):=PA.to (iT ha hr hs) λ_ _ _ h=>Fw h
@[simp] noncomputable def aS:List D->Option (D×Bool):=λds=>if ds.length<=sizeLine then some (.tup ds,false)else none
@[simp] noncomputable def bJ:List D->Option (D×Bool):=λds=>if ds.length<=sizeLine then some (.lst ds,true)else none
theorem aR {x1}(h:JA X es f):JE X (.Tuple es x1 pos) (fA aS f):=PE.to (Aw h) λσ H Q q=>by
 obtain⟨B,ρ,ds,s,r,e,k⟩:=Jf q;refine⟨B,ρ,ds,s,r,e,λvs H1 N1 x1 i1=>?_⟩;obtain⟨B2,Wu,d,b,s2,i2,e2,k2⟩:=k vs H1 N1 x1 i1;unfold aS at e2;split at e2
 ·rename_i hz;cases e2
  refine⟨by rw[i2.length];exact hz,λp hp=>k2 _ _ (upd B2 p (.tup vs)) (.laid s2 hp) (.tup (jo.of aG) (i2.mono (Ext.laid s2 hp).bn)) (by simp)⟩
 ·cases e2
theorem bH (h:JA X es f):JE X (.List es pos) (fA bJ f):=PE.to (MV h) λσ H Q q=>by
 obtain⟨B,ρ,ds,s,r,e,k⟩:=Jf q;refine⟨B,ρ,ds,s,r,e,λvs H1 N1 x1 i1=>?_⟩;obtain⟨B2,Wu,d,b,s2,i2,e2,k2⟩:=k vs H1 N1 x1 i1;unfold bJ at e2;split at e2
 ·rename_i hz;cases e2
  refine⟨by rw[i2.length];exact hz,λp hp=>k2 _ _ (upd B2 p (.lst vs)) (.laid s2 hp) (.lst (iP.of aG) (i2.mono (Ext.laid s2 hp).bn)) λ_=>⟨p,vs,Wu,rfl,rfl,hp,aG,i2.mono (Ext.laid s2 hp).bn⟩⟩
 ·cases e2
end
section
variable {X:Cx}
theorem je (h:dR X f r)(k:∀x y H Q,r' x y H Q->r x y H Q):dR X f r':=λae s σ H x y v u Q I rx ry q=>h ae s σ H x y v u Q I rx ry (k x y H Q q)
noncomputable def EL (f g:D->D->Option (D×Bool)):D->D->Option (D×Bool):=λx y=>match f x y with|some r=>some r|none=>g x y
theorem nW (h:dR X s (rD X.K f))(h':dR X s (rD X.K g)):dR X s (rD X.K (EL f g)):=by
 intro ae st σ H x y v u Q I rx ry q;obtain⟨B,dx,dy,d,b,sB,ix,iy,e,q⟩:=q;unfold EL at e;split at e
 ·rename_i r ef;cases e
  exact h ae st σ H x y v u Q I rx ry ⟨B,dx,dy,_,_,sB,ix,iy,ef,q⟩
 ·exact h' ae st σ H x y v u Q I rx ry ⟨B,dx,dy,_,_,sB,ix,iy,e,q⟩
@[simp] noncomputable def xH (C:Int->Int->Bool)(g:Int->Int->D):D->D->Option (D×Bool)
 |.int i,.int j=>if C i j=true then some (g i j,false)else none
 |_,_=>none
theorem wz (h:dR X s (rI C g))(hC:∀i j,C' i j=true->C i j)(hg:∀i j B,Is X.K B (g i j) (g' i j)):dR X s (rD X.K (xH C' g')):=by
 refine je h λx y H Q q=>?_;obtain⟨B,dx,dy,d,b,sB,ix,iy,e,q⟩:=q;cases ix<;>cases iy<;>try (simp[xH]at e;done)
 rename_i i j;simp only[xH]at e;split at e
 ·rename_i hc;cases e
  exact⟨i,j,rfl,rfl,hC i j hc,q.one sB (hg i j B)⟩
 ·cases e
theorem iw (h:dR X s (Il g))(hg:∀i j B,Is X.K B (g i j) (g' i j)):dR X s (rD X.K (xH (λ_ _=>true) g')):=by
 refine je h λx y H Q q=>?_;obtain⟨B,dx,dy,d,b,sB,ix,iy,e,q⟩:=q;cases ix<;>cases iy<;>try (simp[xH]at e;done)
 rename_i i j;simp only[xH,if_true]at e;cases e
 exact⟨i,j,rfl,rfl,q.one sB (hg i j B)⟩
abbrev No:D->D->Option (D×Bool):=xH (λ_ _=>true) λi j=>.int (i+j)
abbrev AD:D->D->Option (D×Bool):=xH (λ_ _=>true) λi j=>.int (i - j)
abbrev Np:D->D->Option (D×Bool):=xH (λi j=>decide ((-18446744073709551616<i/\i<18446744073709551616)∨(-18446744073709551616<j/\j<18446744073709551616))) λi j=>.int (i*j)
abbrev cZ:D->D->Option (D×Bool):=xH (λ_ j=>decide (0<j/\j<1073741824)) λi j=>.int (i / j)
abbrev bM:D->D->Option (D×Bool):=xH (λ_ j=>decide (0<j)) λi j=>.int (i % j)
abbrev Q1:D->D->Option (D×Bool):=xH (λ_ _=>true) λi j=>.int (Builtin.bitAnd i j)
abbrev VD:D->D->Option (D×Bool):=xH (λ_ _=>true) λi j=>.bl (decide (i<j))
abbrev T5:D->D->Option (D×Bool):=xH (λ_ _=>true) λi j=>.bl (decide (i<=j))
abbrev Iq:D->D->Option (D×Bool):=xH (λ_ _=>true) λi j=>.bl (decide (j<i))
abbrev T6:D->D->Option (D×Bool):=xH (λ_ _=>true) λi j=>.bl (decide (j<=i))
theorem Q2:dR X (binaryOp .Add) (rD X.K No):=iw ML λ_ _ _=>.int _
theorem F9:dR X (binaryOp .Sub) (rD X.K AD):=iw MN λ_ _ _=>.int _
theorem Q3:dR X (binaryOp .Mult) (rD X.K Np):=wz MO (λi j h=>by have h:=of_decide_eq_true h;unfold IL;omega) λ_ _ _=>.int _
theorem bQ:dR X (binaryOp .FloorDiv) (rD X.K cZ):=wz IM (λi j h=>by have h:=of_decide_eq_true h;unfold Qf;omega) λ_ _ _=>.int _
theorem bN:dR X (binaryOp .Mod) (rD X.K bM):=wz MP (λ_ _ h=>of_decide_eq_true h) λ_ _ _=>.int _
theorem Q4:dR X (binaryOp .BitAnd) (rD X.K Q1):=iw MQ λ_ _ _=>.int _
theorem T7:dR X (compareOp .Lt) (rD X.K VD):=iw Qg λ_ _ _=>.bl _
theorem T8:dR X (compareOp .LtE) (rD X.K T5):=iw Qh λ_ _ _=>.bl _
theorem FC:dR X (compareOp .Gt) (rD X.K Iq):=iw Qi λ_ _ _=>.bl _
theorem T9:dR X (compareOp .GtE) (rD X.K T6):=iw Qj λ_ _ _=>.bl _
@[simp] noncomputable def Lr (C:Str->Str->Bool)(g:Str->Str->D):D->D->Option (D×Bool)
 |.str i,.str j=>if C i j=true then some (g i j,false)else none
 |_,_=>none
abbrev FD:D->D->Option (D×Bool):=Lr (λi j=>decide (i.length+j.length<=sizeLine)) λi j=>.str (i++j)
abbrev Q5:D->D->Option (D×Bool):=Lr (λ_ _=>true) λi j=>.bl (!decide (j.cps.toList<i.cps.toList))
theorem Nq:dR X (binaryOp .Add) (rD X.K FD):=by
 refine je Au λx y H Q q=>?_;obtain⟨B,dx,dy,d,b,sB,ix,iy,e,q⟩:=q;cases ix<;>cases iy<;>try (simp[FD,Lr]at e;done)
 rename_i i j;simp only[FD,Lr]at e;split at e
 ·rename_i hc;cases e
  exact⟨i,j,rfl,rfl,of_decide_eq_true hc,q.one sB (.str _)⟩
 ·cases e
theorem Q6:dR X (compareOp .LtE) (rD X.K Q5):=by
 intro ae s σ H x y v u Q I rx ry q;obtain⟨B,dx,dy,d,b,sB,ix,iy,e,q⟩:=q;cases ix<;>cases iy<;>try (simp[Q5,Lr]at e;done)
 rename_i i j;simp only[Q5,Lr,if_true]at e;cases e
 obtain⟨t,rfl⟩:=rx;obtain⟨t',rfl⟩:=ry;exact PySem.P.le_str ⟨.bl _,H,I,rfl,q.one sB (.bl _)⟩
end
section
variable {X:Cx}{a b c e:Expr}{pos:Pos}{st:Stmt}{aF:List Stmt}
theorem dI:xG X [] bp:=wa.to IG λ_ _ _ h=>Fy h
theorem ao (h1:JS X st g)(h2:xG X aF h):xG X (st::aF) (a9 g h):=wa.to (EZ h1 h2) λ_ _ _ q=>Jh q
theorem bj (h1:JS X st g):xG X [st] g:=IH h1
theorem eO {c:Expr}{a b:List Stmt}{fc:FT}{g h:FS}(hc:JT X c fc)(ha:xG X a g)(hb:xG X b h):JS X (.If c a b pos) (eM fc g h):=PS.to (PX hc ha hb) λ_ _ _ q=>Nj q
theorem FF (he:JE X e f):JS X (.Return (some e) pos) (aW f):=PS.to (Fa he) λ_ _ _ q=>Ji q
theorem kZ (i:Nat)(hN:X.N[i]? = some x:=by rfl)(hv:EX X.env.scope x:=by first|exact Or.inl rfl|exact Or.inr (Or.inl rfl)|exact Or.inr (Or.inr rfl))(hd:(x == ("__debug__" : Str))=false:=by decide)
  (jG:(x == ("__classdict__" : Str))=false:=by decide):JS X (.Return (some (.Name x p)) pos) (jr i):=PS.to (Fa (lO hN hv hd jG)) λ_ _ _ q=>Fz q
theorem aD (hN:X.N.Nodup)(he:JE X e f)(hi:X.N[i]? = some x:=by rfl)(hx:Ik X.env.scope x:=by first|exact Or.inl rfl|exact Or.inr rfl)(hs:swapsWith e (some (.Name x p)) pos.line X.env=pure false:=by rfl)
  (hf:X.fn x=true∨X.env.scope.names.lookup x=some .local:=by first|exact .inl rfl|exact .inr rfl):JS X (.Assign [.Name x p] e pos) (aO i f):=PS.to (we hN hi hx he hs hf) λ_ _ _ q=>BJ q
theorem Js (hN:X.N.Nodup)(he:JE X e f)(hi:X.N[i]? = some x:=by rfl)(hx:Ik X.env.scope x:=by first|exact Or.inl rfl|exact Or.inr rfl)(hs:swapsWith e (some (.Name x p)) pos.line X.env=pure false:=by rfl)
  (hf:X.fn x=true∨X.env.scope.names.lookup x=some .local:=by first|exact .inl rfl|exact .inr rfl):JS X (.Assign [.Name x p] e pos) (yc i f):=PS.to (we hN hi hx he hs hf) λ_ _ _ q=>F0 q
theorem Nr (hp:PassesOwn (model X.prog X.w) X.A X.env X.xe)(hc:X.calm=true)(hi:JI X tg dr fi)(hg:PG X tg t)(ht:Jk X.K sU t)(hb:xG X body g)
  (hs:∀x,foldedSetIterable dr X.env x=pure x:=by intro _;rfl):JS X (.For tg dr body [] pos) (qg fi sU g):=PS.to (Fd hp hc hi hg hb hs) λ_ _ _ q=>Jl ht q
theorem Jt (hp:PassesOwn (model X.prog X.w) X.A X.env X.xe)(hc:X.calm=true)(hi:PI X tg dr (Su X.K fi))(hg:PG X tg t)(ht:Jk X.K sU t)(hb:xG X body g)
  (hs:∀x,foldedSetIterable dr X.env x=pure x:=by intro _;rfl):JS X (.For tg dr body [] pos) (jZ fi sU g):=PS.to (Fd hp hc hi hg hb hs) λ_ _ _ q=>F5 ht q
theorem gm (he:JE X e f)(hN:X.N[i]? = some x:=by rfl)(hv:EX X.env.scope x:=by first|exact Or.inl rfl|exact Or.inr (Or.inl rfl)|exact Or.inr (Or.inr rfl))(hd:(x == ("__debug__" : Str))=false:=by decide)
  (jG:(x == ("__classdict__" : Str))=false:=by decide)
  (iM:attributeBase (.Name x p) "append" X.env (eval (.Name x p) X.env)=eval (.Name x p) X.env:=by rfl)
  (B9:((backTo cM (starEach [e] X.env)).all (λx=>!x.1) && (backToKw cM (keywordEach [] X.env)).all (λx=>x.1.isSome)
   && decide ([e].length+([]:List Keyword).length+(if([]:List Keyword).isEmpty then 0 else 1)<30))=true:=by rfl)
  (iN:(dM.endLine == cM.line)=true:=by rfl) (hs:starEach [e] X.env=[(false,eval e X.env)]:=by rfl) (Rz:swapsWith (.Call (.Attribute (.Name x p) "append" dM) [e] [] cM) none pos.line X.env=pure false:=by rfl):
  JS X (.Expr (.Call (.Attribute (.Name x p) "append" dM) [e] [] cM) pos) (js i f):=by
 refine PS.to (II (Fm PySem.F.plainAttrs_list PySem.F.slot_list_append PySem.F.type_list_append tS (lO hN hv hd jG) (iT he kx hs) iM B9 iN hs rfl) Rz) λE σ H q=>?_;obtain⟨a,us,h1,h2,k⟩:=Jj q;exact⟨_,h1,.inl ⟨rfl,us,iP.of h2⟩,k⟩
end
@[simp] noncomputable def aN (g:FS)(n k:Nat):List D->Option (D×Bool):=λds=>if ds.length=n then
 match g (ds.map (λd=>some (d,false))++List.replicate k none) with
 |some (.rt d b)=>some (d,b)
 |some (.nx _)=>some (.non,false)
 |_=>none
 else none
def Ju (K:PySem.W.Frag)(f:List D->Option (D×Bool)):Sp:=λvs H Q _=>∃(B:Hp)(ds:List D)(d:D)(b:Bool),(aV B H/\Tb K B)/\IsL K B vs ds/\f ds=some (d,b)/\Fin K B H d b Q
theorem yg {K:PySem.W.Frag}{B H:Hp}{vs:List V}{ds:List D}{N:List Str}(sB:aV B H)(tb:Tb K B)(i:IsL K B vs ds):eJ K B H B H (L2.jY N vs) (ds.map (λd=>some (d,false))++List.replicate (N.length - vs.length) none):=by
 have nf:∀(j:Nat)(d:D)(b:Bool),(ds.map (λd=>some (d,false))++List.replicate (N.length - vs.length) none:Env)[j]? = some (some (d,b))->b=false/\ds[j]? = some d:=λj d b e=>by
  by_cases hj:j<ds.length
  ·rw[List.getElem?_append_left (by simpa using hj),vA]at e;obtain⟨d',h1,h2⟩:=oY e;cases h2
   exact⟨rfl,h1⟩
  ·rw[List.getElem?_append_right (by simpa using Nat.not_lt.mp hj),List.getElem?_replicate]at e;split at e<;>cases e
 have no:∀a,¬own (L2.jY N vs) (ds.map (λd=>some (d,false))++List.replicate (N.length - vs.length) none) a:=λa ⟨j,d,h,_⟩=>by
  obtain⟨z,_⟩:=nf j d true h;cases z
 refine⟨sB,tb,.refl sB,?_,λj d e=>?_,λj d e=>?_,λj k a d e h=>?_⟩
 ·unfold L2.jY;rw[uZ,uZ,vI,vI,List.length_replicate,List.length_replicate,i.length]
 ·obtain⟨_,e1⟩:=nf j d false e;obtain⟨v,h1,h2⟩:=i.get e1;refine⟨v,?_,h2.mono λa o e=>by rw[cV (no a)];exact e⟩;unfold L2.jY;have hj:j<vs.length:=(vV h1).1;rw[List.getElem?_append_left (by simpa using hj),vA,h1]<;>rfl
 ·obtain⟨z,_⟩:=nf j d true e;cases z
 ·obtain⟨z,_⟩:=nf j d true h;cases z
section
variable {P:Program}{w:World}{K:PySem.W.Frag}{mg:Str->Option Value}{base:Heap}
theorem Q7 {x qual:Str}{st:Stmt}{f:Addr}{fd:FuncData}{N ps:List Str}{k:Nat}{g:FS}(F:Oz K x qual st f fd)(S:FnScope N ps (aQ st))
  (hb:∀(eU:Value)(A:Around)(outer:List PySem.Env)(s:Shared)(H:Hp)(E:XK),fg k (A.deeper (envOfC qual (aQ st) s.heap.objs.size f eU))->xG (p7 Ak P w K mg base N qual (aQ st) f eU A outer s H E).nox (cO st) g):
  tH P w K mg base Ak (k+1) f fd ps (Ju K (aN g ps.length (N.length - ps.length))):=by
 have len:∀vs H Q E,Ju K (aN g ps.length (N.length - ps.length)) vs H Q E->vs.length=ps.length:=λvs H Q E h=>by
  obtain⟨B,ds,d,b,sB,i,e,q⟩:=h;unfold aN at e;split at e
  ·rename_i hl;rw[i.length];exact hl
  ·cases e
 refine F.ok S len λeU A outer s H vs Q E hr h=>⟨_,hb eU A outer s H E hr,?_⟩;have bK:=len vs H Q E h;obtain⟨B,ds,d,b,sB,i,e,q⟩:=h;unfold aN at e;rw[if_pos (by rw[←i.length];exact bK)]at e;have s0:=yg (N:=N) sB.1 sB.2 i;rw[bK]at s0;split at e
 ·rename_i d' b' eg;cases e
  exact⟨B,H,_,_,⟨B,s0⟩,eg,λv H' N' x' i' f'=>q v H' N' x' i' f'⟩
 ·rename_i ρ' eg;cases e
  exact⟨B,H,_,_,⟨B,s0⟩,eg,λσ' H' ⟨N',s'⟩=>q .non H' N' s'.ext .non (by simp)⟩
 ·cases e
structure Fn (P:Program)(w:World)(K:PySem.W.Frag)(mg:Str->Option Value)(base:Heap)(k:Nat)(x:Str)(f:List D->Option (D×Bool)):Prop where
 ex:∃(ad:Addr)(fd:FuncData)(ps:List Str),tH P w K mg base Ak k ad fd ps (Ju K f)/\mg x=some (.ref ad)/\PySem.W.keepIn K (.ref ad)=true/\tL K fd ps []
end
theorem BL (F:Fn X.prog X.w X.K X.mg X.base k x f)(hr:fg k X.A)(ha:JA X (e::es) fa)(hg:Gl X x:=by rfl)
  (sM:(x == ("__debug__" : Str))=false:=by decide) (he:starEach (e::es) X.env=(false,eval e X.env)::starEach es X.env:=by rfl) (lL:(backTo pos (starEach es X.env)).any (·.1)=false:=by rfl):
  JE X (.Call (.Name x p) (e::es) [] pos) (fA f fa):=by
 obtain⟨ad,fd,ps,F1,hm,hk,hb⟩:=F.ex;refine PE.to (IQ F1 hr hg hm hk hb .nil Qt ha sM he lL) λσ H Q q=>?_;obtain⟨B,ρ,d,b,s,r,e,q⟩:=q;obtain⟨ds,ex,e⟩:=oX e;exact⟨B,ρ,ds,s,r,ex,λvs H1 N1 x1 i1=>by
  show Ju X.K f (vs++[]) H1 Q _;rw[uQ];exact⟨N1,ds,d,b,⟨x1.nh,r.tb.mono x1.bn⟩,i1,e,q.into x1⟩⟩
mutual
def bG:D->D->Bool
 |.non,.non=>true
 |.bl a,.bl b=>a == b
 |.bl a,.int b=>decide ((if a then 1 else 0)=b)
 |.int a,.bl b=>decide (a=(if b then 1 else 0))
 |.int a,.int b=>decide (a=b)
 |.str a,.str b=>decide (a=b)
 |.tup xs,.tup ys=>dB xs ys
 |.lst xs,.lst ys=>dB xs ys
 |_,_=>false
def dB:List D->List D->Bool
 |[],[]=>true
 |x::xs,y::ys=>bG x y && dB xs ys
 |_,_=>false
end
@[simp] theorem yh:bG .non .non=true:=by simp only[bG]
@[simp] theorem AE (b:Bool):bG .non (.bl b)=false:=by simp only[bG]
@[simp] theorem yi (b:Int):bG .non (.int b)=false:=by simp only[bG]
@[simp] theorem yj (b:Str):bG .non (.str b)=false:=by simp only[bG]
@[simp] theorem Ls (b:List D):bG .non (.tup b)=false:=by simp only[bG]
@[simp] theorem Lu (b:List D):bG .non (.lst b)=false:=by simp only[bG]
@[simp] theorem AF (a:Bool):bG (.bl a) .non=false:=by simp only[bG]
@[simp] theorem DB (a:Bool)(b:Bool):bG (.bl a) (.bl b)=(a == b):=by simp only[bG]
@[simp] theorem AG (a:Bool)(b:Int):bG (.bl a) (.int b)=decide ((if a then 1 else 0)=b):=by simp only[bG]
@[simp] theorem AH (a:Bool)(b:Str):bG (.bl a) (.str b)=false:=by simp only[bG]
@[simp] theorem Nt (a:Bool)(b:List D):bG (.bl a) (.tup b)=false:=by simp only[bG]
@[simp] theorem Nu (a:Bool)(b:List D):bG (.bl a) (.lst b)=false:=by simp only[bG]
@[simp] theorem yk (a:Int):bG (.int a) .non=false:=by simp only[bG]
@[simp] theorem AI (a:Int)(b:Bool):bG (.int a) (.bl b)=decide (a=(if b then 1 else 0)):=by simp only[bG]
@[simp] theorem ym (a:Int)(b:Int):bG (.int a) (.int b)=decide (a=b):=by simp only[bG]
@[simp] theorem yn (a:Int)(b:Str):bG (.int a) (.str b)=false:=by simp only[bG]
@[simp] theorem Lv (a:Int)(b:List D):bG (.int a) (.tup b)=false:=by simp only[bG]
@[simp] theorem Lx (a:Int)(b:List D):bG (.int a) (.lst b)=false:=by simp only[bG]
@[simp] theorem yo (a:Str):bG (.str a) .non=false:=by simp only[bG]
@[simp] theorem AJ (a:Str)(b:Bool):bG (.str a) (.bl b)=false:=by simp only[bG]
@[simp] theorem yp (a:Str)(b:Int):bG (.str a) (.int b)=false:=by simp only[bG]
@[simp] theorem oG (a:Str)(b:Str):bG (.str a) (.str b)=decide (a=b):=by simp only[bG]
@[simp] theorem Ly (a:Str)(b:List D):bG (.str a) (.tup b)=false:=by simp only[bG]
@[simp] theorem Lz (a:Str)(b:List D):bG (.str a) (.lst b)=false:=by simp only[bG]
@[simp] theorem L0 (a:List D):bG (.tup a) .non=false:=by simp only[bG]
@[simp] theorem Nv (a:List D)(b:Bool):bG (.tup a) (.bl b)=false:=by simp only[bG]
@[simp] theorem L3 (a:List D)(b:Int):bG (.tup a) (.int b)=false:=by simp only[bG]
@[simp] theorem L4 (a:List D)(b:Str):bG (.tup a) (.str b)=false:=by simp only[bG]
@[simp] theorem L5 (a:List D)(b:List D):bG (.tup a) (.tup b)=dB a b:=by simp only[bG]
@[simp] theorem L6 (a:List D)(b:List D):bG (.tup a) (.lst b)=false:=by simp only[bG]
@[simp] theorem L7 (a:List D):bG (.lst a) .non=false:=by simp only[bG]
@[simp] theorem Nw (a:List D)(b:Bool):bG (.lst a) (.bl b)=false:=by simp only[bG]
@[simp] theorem L8 (a:List D)(b:Int):bG (.lst a) (.int b)=false:=by simp only[bG]
@[simp] theorem L9 (a:List D)(b:Str):bG (.lst a) (.str b)=false:=by simp only[bG]
@[simp] theorem LA (a:List D)(b:List D):bG (.lst a) (.tup b)=false:=by simp only[bG]
@[simp] theorem LB (a:List D)(b:List D):bG (.lst a) (.lst b)=dB a b:=by simp only[bG]
@[simp] theorem Q8:dB [] []=true:=by rw[dB]
@[simp] theorem OX (x y:D)(xs ys:List D):dB (x::xs) (y::ys)=(bG x y && dB xs ys):=by rw[dB]
@[simp] theorem Sv (y:D)(ys:List D):dB [] (y::ys)=false:=by simp only[dB]
@[simp] theorem Sw (x:D)(xs:List D):dB (x::xs) []=false:=by simp only[dB]
noncomputable def aq:Nat->D->Bool
 |_,.non=>true
 |_,.bl _=>true
 |_,.int _=>true
 |_,.str _=>true
 |_,.ty _=>false
 |_,.dk _ _=>false
 |_,.dt _ _=>false
 |0,.tup _=>false
 |0,.lst _=>false
 |n+1,.tup ds=>ds.all (aq n)
 |n+1,.lst ds=>ds.all (aq n)
@[simp] theorem Nx (n:Nat):aq n .non=true:=by cases n<;>simp only[aq]
@[simp] theorem OY (n:Nat)(a:Bool):aq n (.bl a)=true:=by cases n<;>simp only[aq]
@[simp] theorem Ny (n:Nat)(a:Int):aq n (.int a)=true:=by cases n<;>simp only[aq]
@[simp] theorem Nz (n:Nat)(a:Str):aq n (.str a)=true:=by cases n<;>simp only[aq]
@[simp] theorem OZ (n:Nat)(ks:List cA)(vs:List D):aq n (.dk ks vs)=false:=by cases n<;>simp only[aq]
@[simp] theorem Pa (n:Nat)(ks:List (List cA))(vs:List D):aq n (.dt ks vs)=false:=by cases n<;>simp only[aq]
@[simp] theorem N6 (n:Nat)(ds:List D):aq (n+1) (.tup ds)=ds.all (aq n):=by simp only[aq]
@[simp] theorem N7 (n:Nat)(ds:List D):aq (n+1) (.lst ds)=ds.all (aq n):=by simp only[aq]
theorem yq:∀ {xs ys:List D},dB xs ys=true->xs.length=ys.length
 |[],[],_=>rfl
 |x::xs,y::ys,h=>by
  simp only[dB,vC]at h;rw[vE,vE,yq h.2]
 |[],_::_,h=>by simp[dB]at h
 |_::_,[],h=>by simp[dB]at h
theorem w6 (h:xs.length≠ys.length):dB xs ys=false:=by
 cases e:dB xs ys with
 |false=>rfl
 |true=>exact absurd (yq e) h
theorem jJ (f:Nat->Bool):∀ {xs ys:List D},xs.length=ys.length->(∀(j:Nat) x y,xs[j]? = some x->ys[j]? = some y->f j=bG x y)->(List.range xs.length).all f=dB xs ys
 |[],[],_,_=>by simp[dB]
 |x::xs,y::ys,hl,h=>by
  have e:=jJ (λj=>f (j+1)) (xs:=xs) (ys:=ys) (by simpa using hl) λj a b h1 h2=>h (j+1) a b (by simpa using h1) (by simpa using h2);rw[vE,List.range_succ_eq_map,List.all_cons,List.all_map,dB,←h 0 x y rfl rfl,←e];rfl
 |[],_::_,hl,_=>by simp at hl
 |_::_,[],hl,_=>by simp at hl
section
variable {X:Cx}{ae:List (Addr×Obj)}{σ:St}{H:Hp}{s:Shared}
theorem BM (I:Inv X ae σ H s)(h1:jo X.K H a vs)(h2:iP X.K H a ws):False:=by
 obtain⟨its,_,⟨o,e,c,_⟩,_⟩:=I.tuple h1;obtain⟨its',_,⟨o',n',e',c',_⟩,_⟩:=I.list h2;rw[e]at e';cases e';rw[c]at c';injection c' with z;exact absurd z (by decide)
theorem BN (I:Inv X ae σ H s)(e:s.heap.get? a=some o)(d:o.data=.seq its n):(∀aI ob,H a≠some (.dK aI ob))/\∀aI,H a≠some (.dT aI):=by
 refine⟨λaI ob h=>?_,λaI h=>?_⟩
 ·obtain⟨_,_,_,_,_,o',es,ep,e',_,d',_⟩:=(show bR X.prog X.w H s.heap a (.dK aI ob)from I.hok a _ h);rw[e]at e';cases e';rw[d]at d';cases d'
 ·obtain⟨_,_,_,_,o',es,ep,e',_,d',_⟩:=(show bR X.prog X.w H s.heap a (.dT aI)from I.hok a _ h);rw[e]at e';cases e';rw[d]at d';cases d'
theorem yr (I:Inv X ae σ H s)(h1:jo X.K H a vs):(∀aI ob,H a≠some (.dK aI ob))/\∀aI,H a≠some (.dT aI):=by
 obtain⟨its,_,⟨o,e,c,n,d⟩,_⟩:=I.tuple h1;exact BN I e d
theorem yt (I:Inv X ae σ H s)(h1:iP X.K H a vs):(∀aI ob,H a≠some (.dK aI ob))/\∀aI,H a≠some (.dT aI):=by
 obtain⟨its,_,p,_⟩:=I.list h1;obtain⟨o,e,c,n,d⟩:=p.isList;exact BN I e d
theorem BO (I:Inv X ae σ H s):∀(n:Nat){v:V}{d d':D},Is X.K H v d->Is X.K H v d'->aq n d=true->bG d d'=true:=by
 have lists:∀ {p:D->Bool}(ih:∀ {v:V}{d d':D},Is X.K H v d->Is X.K H v d'->p d=true->bG d d'=true) {vs:List V}{ds KR:List D},IsL X.K H vs ds->IsL X.K H vs KR->ds.all p=true->dB ds KR=true:=by
  intro p ih vs;induction vs with
  |nil=>intro ds KR h h' _;cases h;cases h';simp[dB]
  |cons v vs Ys=>
   intro ds KR h h' hp;cases h with
   |cons h1 h2=>
    cases h' with
    |cons h3 h4=>
     rw[List.all_cons,vC]at hp;rw[dB,ih h1 h3 hp.1,Ys h2 h4 hp.2];rfl
 intro n;induction n with
 |zero=>
  intro v d d' h h' hp;cases h<;>cases h'<;>first|(simp[aq]at hp;done)|simp[bG]
 |succ n ih=>
  intro v d d' h h' hp;cases h with
  |tup h1 h2=>
   cases h' with
   |tup h3 h4=>
    rw[I.tuple_inj h3 h1]at h4;rw[bG];exact lists ih h2 h4 (by simpa [aq]using hp)
   |lst h3 h4=>exact(BM I h1 h3).elim
   |dk h3 _ _=>exact((yr I h1).1 _ _ h3).elim
   |dt h3 _ _=>exact((yr I h1).2 _ h3).elim
  |lst h1 h2=>
   cases h' with
   |lst h3 h4=>
    rw[I.list_inj h3 h1]at h4;rw[bG];exact lists ih h2 h4 (by simpa [aq]using hp)
   |tup h3 h4=>exact(BM I h3 h1).elim
   |dk h3 _ _=>exact((yt I h1).1 _ _ h3).elim
   |dt h3 _ _=>exact((yt I h1).2 _ h3).elim
  |ty=>simp[aq]at hp
  |dk=>simp[aq]at hp
  |dt=>simp[aq]at hp
  |_=>cases h'<;>simp[bG]
theorem LC {α:Type}{p:α->Bool}{l:List α}{j:Nat}{x:α}(h:l.all p=true)(e:l[j]? = some x):p x=true:=uR h x (vL e)
theorem yu {A:Around}{p:D->Bool}(ih:∀ {v1 v2:V}{d1 d2:D}{u1 u2:Value},p d1=true->p d2=true->Is X.K H v1 d1->Is X.K H v2 d2->ba v1 u1->ba v2 u2->SeqAt.EqAt A s u1 u2 (bG d1 d2))
  {vs ws:List V}{ds es:List D}{its gA:List Value}(i1:IsL X.K H vs ds) (i2:IsL X.K H ws es) (r1:aX vs its) (r2:aX ws gA) (p1:ds.all p=true) (p2:es.all p=true):
  ∀j (h1:j<its.toArray.size) (h2:j<gA.toArray.size),SeqAt.EqAt A s its.toArray[j] gA.toArray[j] (bG (ds.getD j .non) (es.getD j .non)):=by
 intro j h1 h2;rw[vH]at h1 h2;have l1:=r1.length;have l2:=r2.length;have l3:=i1.length;have l4:=i2.length;have hv:j<vs.length:=by omega
 have hw:j<ws.length:=by omega
 have hd:j<ds.length:=by omega
 have he:j<es.length:=by omega
 obtain⟨u,e1,q1⟩:=r1.get (i:=j) (x:=vs[j]) (by simp[hv]);obtain⟨u',e2,q2⟩:=r2.get (i:=j) (x:=ws[j]) (by simp[hw]);obtain⟨v,e3,q3⟩:=i1.get (i:=j) (d:=ds[j]) (by simp[hd]);obtain⟨w,e4,q4⟩:=i2.get (i:=j) (d:=es[j]) (by simp[he]);have a1:its.toArray[j]=u:=by have z:=(vV e1).2;simpa using z
 have a2:gA.toArray[j]=u':=by have z:=(vV e2).2;simpa using z
 have a3:vs[j]=v:=by simpa [hv]using e3
 have a4:ws[j]=w:=by simpa [hw]using e4
 have a5:ds.getD j .non=ds[j]:=by simp[List.getD,hd]
 have a6:es.getD j .non=es[j]:=by simp[List.getD,he]
 rw[a1,a2,a5,a6];exact ih (LC p1 (j:=j) (by simp[hd])) (LC p2 (j:=j) (by simp[he])) (a3 ▸ q3) (a4 ▸ q4) q1 q2
theorem wA {xs ys:List D}(j:Nat)(x y:D)(h1:xs[j]? = some x)(h2:ys[j]? = some y):bG (xs.getD j .non) (ys.getD j .non)=bG x y:=by
 simp[List.getD,h1,h2]
abbrev VE (A:Around)(s:Shared)(u1 u2:Value)(b:Bool):Prop:=SeqAt.RcAt A s u1 u2 b/\SeqAt.EqAt A s u1 u2 b/\SeqAt.RcNeAt A s u1 u2 (!b)
theorem cr (p1:aq 0 d1=true)(p2:aq 0 d2=true)(i1:Is X.K H v1 d1)(i2:Is X.K H v2 d2)(r1:ba v1 u1)(r2:ba v2 u2):VE A s u1 u2 (bG d1 d2):=by
 cases i1 with
 |non=>
  cases r1
  cases i2 with
  |non=>
   cases r2
   rw[yh];exact⟨SeqAt.RcAt.none_none,SeqAt.EqAt.same _,SeqAt.RcNeAt.none_none⟩
  |bl b=>
   cases r2
   rw[AE];exact⟨SeqAt.RcAt.none_bool _,SeqAt.EqAt.none_bool _,SeqAt.RcNeAt.none_bool _⟩
  |int b=>
   obtain⟨t',rfl⟩:=r2;rw[yi];exact⟨SeqAt.RcAt.none_int _ _,SeqAt.EqAt.none_int _ _,SeqAt.RcNeAt.none_int _ _⟩
  |str b=>
   obtain⟨t',rfl⟩:=r2;rw[yj];exact⟨SeqAt.RcAt.none_str _ _,SeqAt.EqAt.none_str _ _,SeqAt.RcNeAt.none_str _ _⟩
  |ty=>simp[aq]at p2
  |dk=>simp[aq]at p2
  |dt=>simp[aq]at p2
  |tup=>simp[aq]at p2
  |lst=>simp[aq]at p2
 |bl a=>
  cases r1
  cases i2 with
  |non=>
   cases r2
   rw[AF];exact⟨SeqAt.RcAt.bool_none _,SeqAt.EqAt.bool_none _,SeqAt.RcNeAt.bool_none _⟩
  |bl b=>
   cases r2
   rw[DB];exact⟨SeqAt.RcAt.bool_bool _ _,SeqAt.EqAt.bool_bool _ _,SeqAt.RcNeAt.bool_bool _ _⟩
  |int b=>
   obtain⟨t',rfl⟩:=r2;rw[AG,←Bool.beq_eq_decide_eq];exact⟨SeqAt.RcAt.bool_int _ _ _,SeqAt.EqAt.bool_int _ _ _,SeqAt.RcNeAt.bool_int _ _ _⟩
  |str b=>
   obtain⟨t',rfl⟩:=r2;rw[AH];exact⟨SeqAt.RcAt.bool_str _ _ _,SeqAt.EqAt.bool_str _ _ _,SeqAt.RcNeAt.bool_str _ _ _⟩
  |ty=>simp[aq]at p2
  |dk=>simp[aq]at p2
  |dt=>simp[aq]at p2
  |tup=>simp[aq]at p2
  |lst=>simp[aq]at p2
 |int a=>
  obtain⟨t,rfl⟩:=r1;cases i2 with
  |non=>
   cases r2
   rw[yk];exact⟨SeqAt.RcAt.int_none _ _,SeqAt.EqAt.int_none _ _,SeqAt.RcNeAt.int_none _ _⟩
  |bl b=>
   cases r2
   rw[AI,←Bool.beq_eq_decide_eq];exact⟨SeqAt.RcAt.int_bool _ _ _,SeqAt.EqAt.int_bool _ _ _,SeqAt.RcNeAt.int_bool _ _ _⟩
  |int b=>
   obtain⟨t',rfl⟩:=r2;rw[ym,←Bool.beq_eq_decide_eq];exact⟨SeqAt.RcAt.int_int _ _ _ _,SeqAt.EqAt.int_int _ _ _ _,SeqAt.RcNeAt.int_int _ _ _ _⟩
  |str b=>
   obtain⟨t',rfl⟩:=r2;rw[yn];exact⟨SeqAt.RcAt.int_str _ _ _ _,SeqAt.EqAt.int_str _ _ _ _,SeqAt.RcNeAt.int_str _ _ _ _⟩
  |ty=>simp[aq]at p2
  |dk=>simp[aq]at p2
  |dt=>simp[aq]at p2
  |tup=>simp[aq]at p2
  |lst=>simp[aq]at p2
 |str a=>
  obtain⟨t,rfl⟩:=r1;cases i2 with
  |non=>
   cases r2
   rw[yo];exact⟨SeqAt.RcAt.str_none _ _,SeqAt.EqAt.str_none _ _,SeqAt.RcNeAt.str_none _ _⟩
  |bl b=>
   cases r2
   rw[AJ];exact⟨SeqAt.RcAt.str_bool _ _ _,SeqAt.EqAt.str_bool _ _ _,SeqAt.RcNeAt.str_bool _ _ _⟩
  |int b=>
   obtain⟨t',rfl⟩:=r2;rw[yp];exact⟨SeqAt.RcAt.str_int _ _ _ _,SeqAt.EqAt.str_int _ _ _ _,SeqAt.RcNeAt.str_int _ _ _ _⟩
  |str b=>
   obtain⟨t',rfl⟩:=r2;rw[oG,←Bool.beq_eq_decide_eq];exact⟨SeqAt.RcAt.str_str _ _ _ _,SeqAt.EqAt.str_str _ _ _ _,SeqAt.RcNeAt.str_str _ _ _ _⟩
  |ty=>simp[aq]at p2
  |dk=>simp[aq]at p2
  |dt=>simp[aq]at p2
  |tup=>simp[aq]at p2
  |lst=>simp[aq]at p2
 |ty=>simp[aq]at p1
 |dk=>simp[aq]at p1
 |dt=>simp[aq]at p1
 |tup=>simp[aq]at p1
 |lst=>simp[aq]at p1
theorem LD (I:Inv X ae σ H s):∀(n:Nat){A:Around}{v1 v2:V}{d1 d2:D}{u1 u2:Value},A.units+n<cLine->aq n d1=true->aq n d2=true->Is X.K H v1 d1->Is X.K H v2 d2->ba v1 u1->ba v2 u2->VE A s u1 u2 (bG d1 d2):=by
 intro n;induction n with
 |zero=>exact λ_ p1 p2 i1 i2 r1 r2=>cr p1 p2 i1 i2 r1 r2
 |succ n ih=>
  intro A v1 v2 d1 d2 u1 u2 hu p1 p2 i1 i2 r1 r2;have fO:A.units<cLine:=by omega
  have Rt:∀ {v1 v2:V}{d1 d2:D}{u1 u2:Value},aq n d1=true->aq n d2=true->Is X.K H v1 d1->Is X.K H v2 d2->ba v1 u1->ba v2 u2->SeqAt.EqAt A.in1 s u1 u2 (bG d1 d2):=λp1 p2 i1 i2 r1 r2=>(ih (A:=A.in1) (by show A.units+1+n<cLine;omega) p1 p2 i1 i2 r1 r2).2.1;cases i1 with
  |tup h1 k1=>
   cases r1
   obtain⟨its,O0,t1,z1⟩:=I.tuple h1;have ko:s.heap.IsTuple _ its.toArray:=t1;have q1:=p1;simp only[aq]at q1;cases i2 with
   |tup h2 k2=>
    cases r2
    obtain⟨gA,xD,t2,z2⟩:=I.tuple h2;have oC:s.heap.IsTuple _ gA.toArray:=t2;have q2:=p2;simp only[aq]at q2;rename_i a1 vs ds a2 ws es;have he:=yu (A:=A.in1) (p:=aq n) Rt k1 k2 O0 xD q1 q2;have R0:((List.range (min its.toArray.size gA.toArray.size)).all (λj=>bG (ds.getD j .non) (es.getD j .non)) && its.toArray.size == gA.toArray.size)=bG (.tup ds) (.tup es):=by
     rw[bG,vH,vH,←O0.length,←xD.length,k1.length,k2.length];by_cases hl:ds.length=es.length
     ·rw[←hl,Nat.min_self,beq_self_eq_true,Bool.and_true];exact jJ _ hl λj x y e1 e2=>wA j x y e1 e2
     ·rw[w6 hl,beq_eq_false_iff_ne.mpr hl,Bool.and_false]
    have rc:=SeqAt.RcAt.tuples ko oC fO he;have rn:=SeqAt.RcNeAt.tuples ko oC fO he;rw[R0]at rc rn;refine⟨rc,?_,rn⟩;by_cases ha:a1=a2
    ·subst ha;rw[BO I (n+1) (.tup h1 k1) (.tup h2 k2) p1];exact SeqAt.EqAt.same _
    ·exact SeqAt.EqAt.of_refs ha rc
   |lst h2 k2=>
    cases r2
    obtain⟨gA,xD,t2,z2⟩:=I.list h2;rw[show bG (.tup _) (.lst _)=false by simp only[bG]];exact⟨SeqAt.RcAt.tuple_list ko t2.isList fO,SeqAt.EqAt.tuple_list ko t2.isList fO,SeqAt.RcNeAt.tuple_list ko t2.isList fO⟩
   |ty=>simp[aq]at p2
   |dk=>simp[aq]at p2
   |dt=>simp[aq]at p2
   |non=>cases r2;simp only[bG];exact⟨SeqAt.RcAt.tuple_none ko fO,SeqAt.EqAt.tuple_none ko fO,SeqAt.RcNeAt.tuple_none ko fO⟩
   |bl=>cases r2;simp only[bG];exact⟨SeqAt.RcAt.tuple_bool _ ko fO,SeqAt.EqAt.tuple_bool _ ko fO,SeqAt.RcNeAt.tuple_bool _ ko fO⟩
   |int=>obtain⟨t,rfl⟩:=r2;simp only[bG];exact⟨SeqAt.RcAt.tuple_int _ _ ko fO,SeqAt.EqAt.tuple_int _ _ ko fO,SeqAt.RcNeAt.tuple_int _ _ ko fO⟩
   |str=>obtain⟨t,rfl⟩:=r2;simp only[bG];exact⟨SeqAt.RcAt.tuple_str _ _ ko fO,SeqAt.EqAt.tuple_str _ _ ko fO,SeqAt.RcNeAt.tuple_str _ _ ko fO⟩
  |lst h1 k1=>
   cases r1
   obtain⟨its,O0,t1,z1⟩:=I.list h1;have ko:s.heap.IsList _ its.toArray:=t1.isList;have q1:=p1;simp only[aq]at q1;cases i2 with
   |lst h2 k2=>
    cases r2
    obtain⟨gA,xD,t2,z2⟩:=I.list h2;have oC:s.heap.IsList _ gA.toArray:=t2.isList;have q2:=p2;simp only[aq]at q2;rename_i a1 vs ds a2 ws es;have he:=yu (A:=A.in1) (p:=aq n) Rt k1 k2 O0 xD q1 q2;have O1:SeqAt.RcAt A s (.ref a1) (.ref a2) (bG (.lst ds) (.lst es))/\SeqAt.RcNeAt A s (.ref a1) (.ref a2) (!bG (.lst ds) (.lst es)):=by
     by_cases hl:ds.length=es.length
     ·have hs:its.toArray.size=gA.toArray.size:=by rw[vH,vH,←O0.length,←xD.length,k1.length,k2.length];exact hl
      have R0:(List.range its.toArray.size).all (λj=>bG (ds.getD j .non) (es.getD j .non))=bG (.lst ds) (.lst es):=by
       rw[bG,vH,←O0.length,k1.length];exact jJ _ hl λj x y e1 e2=>wA j x y e1 e2
      have rc:=SeqAt.RcAt.lists ko oC hs fO he;have rn:=SeqAt.RcNeAt.lists ko oC hs fO he;rw[R0]at rc rn;exact⟨rc,rn⟩
     ·have hs:(its.toArray.size != gA.toArray.size)=true:=by rw[vH,vH,←O0.length,←xD.length,k1.length,k2.length];exact bne_iff_ne.mpr hl
      rw[bG,w6 hl];exact⟨SeqAt.RcAt.lists_lengths ko oC hs fO,SeqAt.RcNeAt.lists_lengths ko oC hs fO⟩
    refine⟨O1.1,?_,O1.2⟩;by_cases ha:a1=a2
    ·subst ha;rw[BO I (n+1) (.lst h1 k1) (.lst h2 k2) p1];exact SeqAt.EqAt.same _
    ·exact SeqAt.EqAt.of_refs ha O1.1
   |tup h2 k2=>
    cases r2
    obtain⟨gA,xD,t2,z2⟩:=I.tuple h2;have oC:s.heap.IsTuple _ gA.toArray:=t2;rw[show bG (.lst _) (.tup _)=false by simp only[bG]];exact⟨SeqAt.RcAt.list_tuple ko oC fO,SeqAt.EqAt.list_tuple ko oC fO,SeqAt.RcNeAt.list_tuple ko oC fO⟩
   |ty=>simp[aq]at p2
   |dk=>simp[aq]at p2
   |dt=>simp[aq]at p2
   |non=>cases r2;simp only[bG];exact⟨SeqAt.RcAt.list_none ko fO,SeqAt.EqAt.list_none ko fO,SeqAt.RcNeAt.list_none ko fO⟩
   |bl=>cases r2;simp only[bG];exact⟨SeqAt.RcAt.list_bool _ ko fO,SeqAt.EqAt.list_bool _ ko fO,SeqAt.RcNeAt.list_bool _ ko fO⟩
   |int=>obtain⟨t,rfl⟩:=r2;simp only[bG];exact⟨SeqAt.RcAt.list_int _ _ ko fO,SeqAt.EqAt.list_int _ _ ko fO,SeqAt.RcNeAt.list_int _ _ ko fO⟩
   |str=>obtain⟨t,rfl⟩:=r2;simp only[bG];exact⟨SeqAt.RcAt.list_str _ _ ko fO,SeqAt.EqAt.list_str _ _ ko fO,SeqAt.RcNeAt.list_str _ _ ko fO⟩
  |ty=>simp[aq]at p1
  |dk=>simp[aq]at p1
  |dt=>simp[aq]at p1
  |non=>
   cases i2 with
   |tup h2 k2=>cases r1;cases r2;obtain⟨gA,xD,t2,z2⟩:=I.tuple h2;have oC:s.heap.IsTuple _ gA.toArray:=t2;simp only[bG];exact⟨SeqAt.RcAt.none_tuple oC fO,SeqAt.EqAt.none_tuple oC fO,SeqAt.RcNeAt.none_tuple oC fO⟩
   |lst h2 k2=>cases r1;cases r2;obtain⟨gA,xD,t2,z2⟩:=I.list h2;simp only[bG];exact⟨SeqAt.RcAt.none_list t2.isList fO,SeqAt.EqAt.none_list t2.isList fO,SeqAt.RcNeAt.none_list t2.isList fO⟩
   |ty=>simp[aq]at p2
   |dk=>simp[aq]at p2
   |dt=>simp[aq]at p2
   |non=>exact cr (X:=X) (H:=H) (by simp[aq]) (by simp[aq]) .non .non r1 r2
   |bl x=>exact cr (X:=X) (H:=H) (by simp[aq]) (by simp[aq]) .non (.bl x) r1 r2
   |int x=>exact cr (X:=X) (H:=H) (by simp[aq]) (by simp[aq]) .non (.int x) r1 r2
   |str x=>exact cr (X:=X) (H:=H) (by simp[aq]) (by simp[aq]) .non (.str x) r1 r2
  |bl y=>
   cases i2 with
   |tup h2 k2=>cases r1;cases r2;obtain⟨gA,xD,t2,z2⟩:=I.tuple h2;have oC:s.heap.IsTuple _ gA.toArray:=t2;simp only[bG];exact⟨SeqAt.RcAt.bool_tuple _ oC fO,SeqAt.EqAt.bool_tuple _ oC fO,SeqAt.RcNeAt.bool_tuple _ oC fO⟩
   |lst h2 k2=>cases r1;cases r2;obtain⟨gA,xD,t2,z2⟩:=I.list h2;simp only[bG];exact⟨SeqAt.RcAt.bool_list _ t2.isList fO,SeqAt.EqAt.bool_list _ t2.isList fO,SeqAt.RcNeAt.bool_list _ t2.isList fO⟩
   |ty=>simp[aq]at p2
   |dk=>simp[aq]at p2
   |dt=>simp[aq]at p2
   |non=>exact cr (X:=X) (H:=H) (by simp[aq]) (by simp[aq]) (.bl y) .non r1 r2
   |bl x=>exact cr (X:=X) (H:=H) (by simp[aq]) (by simp[aq]) (.bl y) (.bl x) r1 r2
   |int x=>exact cr (X:=X) (H:=H) (by simp[aq]) (by simp[aq]) (.bl y) (.int x) r1 r2
   |str x=>exact cr (X:=X) (H:=H) (by simp[aq]) (by simp[aq]) (.bl y) (.str x) r1 r2
  |int y=>
   cases i2 with
   |tup h2 k2=>obtain⟨t,rfl⟩:=r1;cases r2;obtain⟨gA,xD,t2,z2⟩:=I.tuple h2;have oC:s.heap.IsTuple _ gA.toArray:=t2;simp only[bG];exact⟨SeqAt.RcAt.int_tuple _ _ oC fO,SeqAt.EqAt.int_tuple _ _ oC fO,SeqAt.RcNeAt.int_tuple _ _ oC fO⟩
   |lst h2 k2=>obtain⟨t,rfl⟩:=r1;cases r2;obtain⟨gA,xD,t2,z2⟩:=I.list h2;simp only[bG];exact⟨SeqAt.RcAt.int_list _ _ t2.isList fO,SeqAt.EqAt.int_list _ _ t2.isList fO,SeqAt.RcNeAt.int_list _ _ t2.isList fO⟩
   |ty=>simp[aq]at p2
   |dk=>simp[aq]at p2
   |dt=>simp[aq]at p2
   |non=>exact cr (X:=X) (H:=H) (by simp[aq]) (by simp[aq]) (.int y) .non r1 r2
   |bl x=>exact cr (X:=X) (H:=H) (by simp[aq]) (by simp[aq]) (.int y) (.bl x) r1 r2
   |int x=>exact cr (X:=X) (H:=H) (by simp[aq]) (by simp[aq]) (.int y) (.int x) r1 r2
   |str x=>exact cr (X:=X) (H:=H) (by simp[aq]) (by simp[aq]) (.int y) (.str x) r1 r2
  |str y=>
   cases i2 with
   |tup h2 k2=>obtain⟨t,rfl⟩:=r1;cases r2;obtain⟨gA,xD,t2,z2⟩:=I.tuple h2;have oC:s.heap.IsTuple _ gA.toArray:=t2;simp only[bG];exact⟨SeqAt.RcAt.str_tuple _ _ oC fO,SeqAt.EqAt.str_tuple _ _ oC fO,SeqAt.RcNeAt.str_tuple _ _ oC fO⟩
   |lst h2 k2=>obtain⟨t,rfl⟩:=r1;cases r2;obtain⟨gA,xD,t2,z2⟩:=I.list h2;simp only[bG];exact⟨SeqAt.RcAt.str_list _ _ t2.isList fO,SeqAt.EqAt.str_list _ _ t2.isList fO,SeqAt.RcNeAt.str_list _ _ t2.isList fO⟩
   |ty=>simp[aq]at p2
   |dk=>simp[aq]at p2
   |dt=>simp[aq]at p2
   |non=>exact cr (X:=X) (H:=H) (by simp[aq]) (by simp[aq]) (.str y) .non r1 r2
   |bl x=>exact cr (X:=X) (H:=H) (by simp[aq]) (by simp[aq]) (.str y) (.bl x) r1 r2
   |int x=>exact cr (X:=X) (H:=H) (by simp[aq]) (by simp[aq]) (.str y) (.int x) r1 r2
   |str x=>exact cr (X:=X) (H:=H) (by simp[aq]) (by simp[aq]) (.str y) (.str x) r1 r2
@[simp] def dJ:D->D->Option (D×Bool):=λx y=>if aq 40 x=true/\aq 40 y=true then some (.bl (bG x y),false)else none
@[simp] def tp:D->D->Option (D×Bool):=λx y=>if aq 40 x=true/\aq 40 y=true then some (.bl (!bG x y),false)else none
theorem cP (hu:X.A.units+40<cLine):dR X (compareOp .Eq) (rD X.K dJ):=by
 intro ae s σ H x y v u Q I rx ry q;obtain⟨B,dx,dy,d,b,sB,ix,iy,e,q⟩:=q;unfold dJ at e;split at e
 ·rename_i hp;cases e
  exact(LD I 40 hu hp.1 hp.2 (ix.mono sB) (iy.mono sB) rx ry).1 _ _ _ _ ⟨.bl _,H,I,rfl,q.one sB (.bl _)⟩
 ·cases e
theorem AK (hu:X.A.units+40<cLine):dR X (compareOp .NotEq) (rD X.K tp):=by
 intro ae s σ H x y v u Q I rx ry q;obtain⟨B,dx,dy,d,b,sB,ix,iy,e,q⟩:=q;unfold tp at e;split at e
 ·rename_i hp;cases e
  exact(LD I 40 hu hp.1 hp.2 (ix.mono sB) (iy.mono sB) rx ry).2.2 _ _ _ _ ⟨.bl _,H,I,rfl,q.one sB (.bl _)⟩
 ·cases e
end
section
variable {X:Cx}{a b e:Expr}{pos:Pos}
theorem BP {K:PySem.W.Frag}{H:Hp}{vs:List V}{ds:List D}{i:Int}{d:D}(h:IsL K H vs ds)(e:oE ds i=some d):∃v,oE vs i=some v/\Is K H v d:=by
 unfold oE at e ⊢;rw[h.length];cases q:D2 ds.length i with
 |none=>rw[q]at e;cases e
 |some j=>rw[q]at e;exact h.get e
@[simp] def bP:D->D->Option (D×Bool)
 |.lst ds,.int i=>(oE ds i).map λd=>(d,false)
 |.tup ds,.int i=>(oE ds i).map λd=>(d,false)
 |.str z,.int i=>if z.length<=sizeLine then (oE z.cps.toList i).map λc=>(.str ⟨#[c]⟩,false)else none
 |_,_=>none
theorem TB:Im X (rD X.K bP):=by
 intro value slice ae s σ H x y v u Q I rx ry q hs;obtain⟨B,dx,dy,d,b,sB,ix,iy,e,q⟩:=q;cases ix<;>cases iy<;>try (simp[bP]at e;done)
 ·simp only[bP]at e;split at e
  ·rename_i hz;obtain⟨c,e1,e2⟩:=oY e;cases e2
   exact A1 value slice ae s σ H _ _ v u Q I rx ry ⟨_,_,c,rfl,rfl,hz,e1,q.one sB (.str _)⟩ hs
  ·cases e
 ·rename_i h hl i;simp only[bP]at e;obtain⟨c,e1,e2⟩:=oY e;cases e2
  obtain⟨w,h1,h2⟩:=BP hl e1;exact A0 value slice ae s σ H _ _ v u Q I rx ry ⟨_,_,_,w,rfl,rfl,bu sB h,h1,q.one sB h2⟩ hs
 ·rename_i h hl i;simp only[bP]at e;obtain⟨c,e1,e2⟩:=oY e;cases e2
  obtain⟨w,h1,h2⟩:=BP hl e1;exact IZ value slice ae s σ H _ _ v u Q I rx ry ⟨_,_,_,w,rfl,rfl,sB.seq h,h1,q.one sB h2⟩ hs
theorem aT (ha:JE X a fa)(hb:JE X b fb)(hs:wj b:=by intro _ _;rfl):JE X (.Subscript a b pos) (f2 bP fa fb):=PE.to (Ln TB ha hb hs) λ_ _ _ h=>Je h
abbrev FO:=Env->Option (Option Int)
def Xy (K:PySem.W.Frag)(f:FO):TO:=λσ H Q=>∃(B:Hp)(ρ:Env)(o:Option Int),aV B H/\fM K B σ ρ/\f ρ=some o/\∀H',aV H H'->Q o H'
abbrev JO (X:Cx)(e:Option Expr)(f:FO):Prop:=PO X e (Xy X.K f)
@[simp] noncomputable def FH:FO:=λ_=>some none
@[simp] noncomputable def BQ (f:FE):FO:=λρ=>match f ρ with|some (.int i,_)=>some (some i)|_=>none
theorem Jv:JO X none FH:=λae s σ H Q I h=>IU ae s σ H Q I (by
 obtain⟨B,ρ,o,sB,r,e,q⟩:=h;cases e
 exact q H (.refl H))
theorem Jw (h:JE X e f):JO X (some e) (BQ f):=λae s σ H Q I q=>IV h ae s σ H Q I (by
 obtain⟨B,ρ,o,sB,r,e,q⟩:=q;unfold BQ at e;split at e
 ·rename_i i b' ef;cases e
  refine⟨B,ρ,_,_,sB,r,ef,λv H1 N1 x1 i1 _=>?_⟩;cases i1
  exact⟨i,rfl,q H1 x1.hh⟩
 ·cases e)
def tq (ds:List D)(lo hi:Option Int):List D:=(ds.drop (HT.eI ds.length 0 lo)).take (HT.eI ds.length ds.length hi - HT.eI ds.length 0 lo)
theorem wB {K:PySem.W.Frag}{H:Hp}{vs:List V}{ds:List D}{lo hi:Option Int}(h:IsL K H vs ds):IsL K H (sX vs lo hi) (tq ds lo hi):=by
 unfold sX tq;rw[h.length];exact(h.drop _).take _
@[simp] def Xz (fa:FE)(fl fh:FO):FE:=λρ=>(fa ρ).bind λx=>(fl ρ).bind λl=>(fh ρ).bind λh=>match x.1 with
 |.lst ds=>some (.lst (tq ds l h),true)
 |.tup ds=>if HT.eI ds.length 0 l=0/\HT.eI ds.length ds.length h=ds.length then none else some (.tup (tq ds l h),false)
 |_=>none
theorem bT.to (h:bT X f r)(k:∀xs H Q,r' xs H Q->r xs H Q):bT X f r':=λae s σ H xs us Q I rs q=>h ae s σ H xs us Q I rs (k xs H Q q)
variable {es:List Expr}{x:Str}{p:Pos}{id T:String}
theorem bA (hc:bT X (.builtin id) (A6 X.K f))(hm:X.mg x=none)(hv:bootBuiltins x=some (.builtin id))(ha:JA X (e::es) fa)(hg:Gl X x:=by rfl)(hn:x ≠ "__name__":=by decide)(sM:(x == ("__debug__" : Str))=false:=by decide)
  (he:starEach (e::es) X.env=(false,eval e X.env)::starEach es X.env:=by rfl) (lL:(backTo pos (starEach es X.env)).any (·.1)=false:=by rfl):JE X (.Call (.Name x p) (e::es) [] pos) (fA f fa):=PE.to (xS hc hg hm hv ha hn sM he lL) λ_ _ _ h=>Jf h
theorem fK (hc:bT X (.type T) (A6 X.K f))(hm:X.mg x=none)(hv:bootBuiltins x=some (.type T))(ha:JA X (e::es) fa)(hg:Gl X x:=by rfl)(hn:x ≠ "__name__":=by decide)(sM:(x == ("__debug__" : Str))=false:=by decide)
  (he:starEach (e::es) X.env=(false,eval e X.env)::starEach es X.env:=by rfl) (lL:(backTo pos (starEach es X.env)).any (·.1)=false:=by rfl):JE X (.Call (.Name x p) (e::es) [] pos) (fA f fa):=PE.to (tQ hc hg hm hv ha hn sM he lL) λ_ _ _ h=>Jf h
@[simp] noncomputable def gW:List D->Option (D×Bool)
 |[.lst ds]=>some (.int ds.length,false)
 |[.tup ds]=>some (.int ds.length,false)
 |[.str z]=>if z.length<=sizeLine then some (.int z.length,false)else none
 |_=>none
theorem ju:bT X (.builtin "len") (A6 X.K gW):=by
 refine bT.to (bT.or wn wo) λxs H Q q=>?_;obtain⟨B,ds,d,b,sB,i,e,q⟩:=q;cases i with
 |nil=>simp[gW]at e
 |cons i1 i2=>
  cases i2 with
  |cons _ _=>cases i1<;>simp[gW]at e
  |nil=>
   cases i1<;>try (simp[gW]at e;done)
   ·simp only[gW]at e;split at e
    ·rename_i hz;cases e
     exact .inr ⟨_,rfl,hz,q.one sB (.int _)⟩
    ·cases e
   ·rename_i h hl;simp only[gW]at e;cases e
    refine .inl ⟨_,_,rfl,.inr (bu sB h),?_⟩;rw[hl.length];exact q.one sB (.int _)
   ·rename_i h hl;simp only[gW]at e;cases e
    refine .inl ⟨_,_,rfl,.inl (sB.seq h),?_⟩;rw[hl.length];exact q.one sB (.int _)
theorem FI (hm:X.mg x=none)(hv:bootBuiltins x=some (.type n))(hg:Gl X x:=by rfl)(hn:x ≠ "__name__":=by decide)(hd:(x == ("__debug__" : Str))=false:=by decide):JE X (.Name x pos) (fC (.ty n)) :=
 PE.to (IE hg hm hv (v:=.ty n) rfl hn hd) λ_ _ _ h=>DA (λ_=>.ty n) h
end
theorem DC (hr:fg k A):A.units+40<cLine:=by have:=hr.un;omega
section
variable {X:Cx}{a b e:Expr}{pos:Pos}{x:Str}{p:Pos}
theorem yv (h:∃u v,X.mg x=some u/\ba v u/\∀B,Is X.K B v d)(hg:Gl X x:=by rfl)(hd:(x == ("__debug__" : Str))=false:=by decide):JE X (.Name x pos) (fC d):=by
 obtain⟨u,v,hm,r,i⟩:=h;exact Jp hg hm r i hd
@[simp] noncomputable def BR:D->D->Option (D×Bool)
 |.int i,.int j=>some (.int (i+j),false)
 |.str i,.str j=>if i.length+j.length<=sizeLine then some (.str (i++j),false)else none
 |_,_=>none
theorem Jx:dR X (binaryOp .Add) (rD X.K BR):=by
 refine je (r:=rD X.K (EL No FD)) (nW Q2 Nq) λx y H Q q=>?_;obtain⟨B,dx,dy,d,b,sB,ix,iy,e,q⟩:=q;refine⟨B,dx,dy,d,b,sB,ix,iy,?_,q⟩;cases dx<;>cases dy<;>simp[BR]at e<;>simp[EL,No,FD,xH,Lr,e]
@[simp] def gG:D->D->Option (D×Bool):=Np
theorem dc:dR X (binaryOp .Mult) (rD X.K gG):=Q3
@[simp] def Q9:D->D->Option (D×Bool):=VD
theorem FJ:dR X (compareOp .Lt) (rD X.K Q9):=T7
@[simp] noncomputable def xI:D->D->Option (D×Bool)
 |.int i,.int j=>some (.bl (decide (i<=j)),false)
 |.str i,.str j=>some (.bl (!decide (j.cps.toList<i.cps.toList)),false)
 |_,_=>none
theorem m9:dR X (compareOp .LtE) (rD X.K xI):=by
 refine je (r:=rD X.K (EL T5 Q5)) (nW T8 Q6) λx y H Q q=>?_;obtain⟨B,dx,dy,d,b,sB,ix,iy,e,q⟩:=q;refine⟨B,dx,dy,d,b,sB,ix,iy,?_,q⟩;cases dx<;>cases dy<;>simp[xI]at e<;>simp[EL,T5,Q5,xH,Lr,e]
@[simp] noncomputable def qi:D->Option (D×Bool)
 |.int i=>some (.int (-i),false)
 |_=>none
theorem FK:Qd X (unaryOp .USub) (T3 X.K qi):=by
 intro ae s σ H x v Q I rx q;obtain⟨B,dx,d,b,sB,ix,e,q⟩:=q;cases ix<;>try (simp[qi]at e;done)
 simp only[qi]at e;cases e
 exact MT ae s σ H _ v Q I rx ⟨_,rfl,q.one sB (.int _)⟩
@[simp] noncomputable def DD:D->D->Option Bool
 |.non,.non=>some true
 |_,.non=>some false
 |.bl a,.bl b=>some (a == b)
 |_,.bl _=>some false
 |_,_=>none
@[simp] def EM:D->D->Option (D×Bool):=λx y=>(DD x y).map λb=>(.bl b,false)
@[simp] def lQ:D->D->Option (D×Bool):=λx y=>(DD x y).map λb=>(.bl (!b),false)
theorem BS {K:PySem.W.Frag}{B:Hp}{x y:V}{v u:Value}{dx dy:D}{k:Bool}(ix:Is K B x dx)(iy:Is K B y dy)(rx:ba x v)(ry:ba y u)(e:DD dx dy=some k):plainIs v u=true/\(v == u)=k:=by
 cases iy<;>(first|(cases dx<;>simp[DD]at e;done)|skip)
 all_goals (cases ix)
 all_goals (first|(obtain⟨t,rfl⟩:=rx)|cases rx)
 all_goals (cases ry)
 all_goals (simp only[DD,Option.some.injEq]at e;subst e)
 all_goals (first|exact⟨rfl,rfl⟩|skip)
 all_goals (rename_i c d;cases c<;>cases d<;>exact⟨rfl,rfl⟩)
theorem FL:dR X (compareOp .Is) (rD X.K EM):=by
 intro ae s σ H x y v u Q I rx ry q;obtain⟨B,dx,dy,d,b,sB,ix,iy,e,q⟩:=q;obtain⟨k,ek,e⟩:=oY e;cases e
 obtain⟨h1,h2⟩:=BS ix iy rx ry ek;refine wpAny_is_plain h1 ⟨.bl k,H,I,by rw[h2];rfl,q.one sB (.bl _)⟩
theorem wC:dR X (compareOp .IsNot) (rD X.K lQ):=by
 intro ae s σ H x y v u Q I rx ry q;obtain⟨B,dx,dy,d,b,sB,ix,iy,e,q⟩:=q;obtain⟨k,ek,e⟩:=oY e;cases e
 obtain⟨h1,h2⟩:=BS ix iy rx ry ek;refine wpAny_isNot_plain h1 ⟨.bl (!k),H,I,by rw[h2];rfl,q.one sB (.bl _)⟩
@[simp] noncomputable def fZ:D->Bool
 |.non=>true|.bl _=>true|.int _=>true|.str _=>true
 |_=>false
noncomputable def Ir (x:D)(ds:List D):Bool:=ds.any λy=>bG y x
@[simp] noncomputable def gH:D->Option (List D)
 |.lst ds=>some ds
 |.tup ds=>some ds
 |_=>none
@[simp] def oH:D->D->Option (D×Bool):=λx y=>(gH y).bind λds=>if fZ x=true/\ds.all fZ=true then some (.bl (Ir x ds),false)else none
@[simp] def eS:D->D->Option (D×Bool):=λx y=>(gH y).bind λds=>if fZ x=true/\ds.all fZ=true then some (.bl (!Ir x ds),false)else none
theorem qj {K:PySem.W.Frag}{B:Hp}{v:V}{d:D}(i:Is K B v d)(h:fZ d=true):lB v=true:=by
 cases i<;>first|rfl|(simp[fZ]at h)
theorem TC {K:PySem.W.Frag}{B:Hp}{v w:V}{d e:D}(i:Is K B v d)(j:Is K B w e)(h:fZ d=true)(h':fZ e=true):Io v w=bG d e:=by
 cases i<;>(first|(simp[fZ]at h;done)|skip)
 all_goals (cases j<;>(first|(simp[fZ]at h';done)|skip))
 all_goals (simp only[Io,bG,Bool.beq_eq_decide_eq])
theorem yw {K:PySem.W.Frag}{B:Hp}:∀ {vs:List V}{ds:List D},IsL K B vs ds->ds.all fZ=true->vs.all lB=true
 |_,_,.nil,_=>rfl
 |_,_,.cons i t,h=>by
  rw[List.all_cons,vC]at h;rw[List.all_cons,qj i h.1,yw t h.2];rfl
theorem FM {K:PySem.W.Frag}{B:Hp}{v:V}{d:D}(j:Is K B v d)(hd:fZ d=true):∀ {vs:List V}{ds:List D},IsL K B vs ds->ds.all fZ=true->Ss v vs=Ir d ds
 |_,_,.nil,_=>rfl
 |_,_,.cons i t,h=>by
  rw[List.all_cons,vC]at h;have e:=FM j hd t h.2;unfold Ss Ir at *;rw[List.any_cons,List.any_cons,e,TC i j h.1 hd]
theorem mB:dR X (compareOp .In) (rD X.K oH):=by
 refine je D3 λx y H Q q=>?_;obtain⟨B,dx,dy,d,b,sB,ix,iy,e,q⟩:=q;obtain⟨ds,es,e⟩:=oX e;split at e
 ·rename_i hf;cases e
  cases iy<;>simp only[gH]at es<;>try (cases es;done)
  ·rename_i h hl;cases es
   exact⟨_,_,rfl,.inr (bu sB h),qj ix hf.1,yw hl hf.2,by rw[if_neg (by decide),FM ix hf.1 hl hf.2];exact q.one sB (.bl _)⟩
  ·rename_i h hl;cases es
   exact⟨_,_,rfl,.inl (sB.seq h),qj ix hf.1,yw hl hf.2,by rw[if_neg (by decide),FM ix hf.1 hl hf.2];exact q.one sB (.bl _)⟩
 ·cases e
theorem mC:dR X (compareOp .NotIn) (rD X.K eS):=by
 refine je wm λx y H Q q=>?_;obtain⟨B,dx,dy,d,b,sB,ix,iy,e,q⟩:=q;obtain⟨ds,es,e⟩:=oX e;split at e
 ·rename_i hf;cases e
  cases iy<;>simp only[gH]at es<;>try (cases es;done)
  ·rename_i h hl;cases es
   exact⟨_,_,rfl,.inr (bu sB h),qj ix hf.1,yw hl hf.2,by rw[if_pos rfl,FM ix hf.1 hl hf.2];exact q.one sB (.bl _)⟩
  ·rename_i h hl;cases es
   exact⟨_,_,rfl,.inl (sB.seq h),qj ix hf.1,yw hl hf.2,by rw[if_pos rfl,FM ix hf.1 hl hf.2];exact q.one sB (.bl _)⟩
 ·cases e
theorem jv:bootBuiltins "len" = some (.builtin "len"):=PySem.boot_len
theorem jK:bootBuiltins "isinstance" = some (.builtin "isinstance"):=by decide +kernel
theorem QA:bootBuiltins "max" = some (.builtin "max"):=by decide +kernel
theorem QB:bootBuiltins "min" = some (.builtin "min"):=by decide +kernel
theorem QC:bootBuiltins "all" = some (.builtin "all"):=by decide +kernel
theorem FN:bootBuiltins "int" = some (.type "int"):=by decide +kernel
theorem NA:bootBuiltins "bool" = some (.type "bool"):=by decide +kernel
theorem AL:bootBuiltins "list" = some (.type "list"):=by decide +kernel
theorem BU:bootBuiltins "tuple" = some (.type "tuple"):=by decide +kernel
@[simp] noncomputable def Jy:List D->Option (D×Bool)
 |[.int i,.int j]=>some (.int (if j > i then j else i),false)
 |_=>none
@[simp] noncomputable def Jz:List D->Option (D×Bool)
 |[.int i,.int j]=>some (.int (if j<i then j else i),false)
 |_=>none
theorem yx {K:PySem.W.Frag}{B:Hp}{xs:List V}{i j:Int}(h:IsL K B xs [.int i,.int j]):xs=[.int i,.int j]:=by
 cases h with
 |cons h1 h2=>cases h1;cases h2 with|cons h3 h4=>cases h3;cases h4;rfl
theorem QD (hc:X.calm=true:=by rfl):bT X (.builtin "max") (A6 X.K Jy):=by
 refine bT.to (Dx hc) λxs H Q q=>?_;obtain⟨B,ds,d,b,sB,i,e,q⟩:=q;match ds,e with
 |[.int i',.int j'],e=>simp only[Jy]at e;cases e;exact⟨i',j',yx i,q.one sB (.int _)⟩
theorem QE (hc:X.calm=true:=by rfl):bT X (.builtin "min") (A6 X.K Jz):=by
 refine bT.to (Dy hc) λxs H Q q=>?_;obtain⟨B,ds,d,b,sB,i,e,q⟩:=q;match ds,e with
 |[.int i',.int j'],e=>simp only[Jz]at e;cases e;exact⟨i',j',yx i,q.one sB (.int _)⟩
@[simp] noncomputable def k9:D->String
 |.non=>"NoneType" | .bl _=>"bool" | .int _=>"int" | .str _=>"str" | .ty _=>"type" | .tup _=>"tuple" | .lst _=>"list" | .dk _ _=>"dict" | .dt _ _=>"dict"
@[simp] noncomputable def QF:D->Bool
 |.ty _=>true
 |_=>false
@[simp] noncomputable def BV (t n:String):Option (D×Bool) :=
 if n = "int" then some (.bl (t == "int" || t == "bool"),false)else if n = "bool" then some (.bl (t == "bool"),false)else if n = "str" then some (.bl (t == "str"),false)
 else if n = "list" then some (.bl (t == "list"),false)else if n = "tuple" then some (.bl (t == "tuple"),false)else none
@[simp] def cF:List D->Option (D×Bool)
 |[d,.ty n]=>if QF d=true then none else BV (k9 d) n
 |_=>none
theorem J0 {ae:List (Addr×Obj)}{σ:St}{H:Hp}{s:Shared}{A:Around}{E:Value->Shared->Prop}{Q:Value->Shared->Prop}{c:Value}{b:Bool}{v:V}{d:D}{u:Value}(I:Inv X ae σ H s)(i:Is X.K H v d)(hd:∀n,d≠.ty n)(rx:ba v u)(e:PySem.W.kitOne X.K (.type (k9 d)) c=some b)(h:∀tk,Q (.bool b) { s with toks:=tk }):
  wpAny (model X.prog X.w) A (call (.builtin "isinstance") [u,c]) Q E s:=by
 cases i with
 |non=>exact ig I rx .non e h
 |bl y=>exact ig I rx (.bl y) e h
 |int y=>exact ig I rx (.int y) e h
 |str y=>exact ig I rx (.str y) e h
 |ty n=>exact absurd rfl (hd n)
 |dk h1 _ _=>exact ig I rx (.dK h1) e h
 |dt h1 _ _=>exact ig I rx (.dT h1) e h
 |tup ht _=>
  cases rx
  obtain⟨its,_,⟨o,h1,h2,_⟩,_⟩:=I.tuple ht;exact PySem.W.kia_one PySem.W.kitx_tuple I.kIn ⟨o,h1,h2⟩ e (λz=>nomatch z) h
 |lst hl _=>
  cases rx
  obtain⟨its,_,⟨o,n,h1,h2,_⟩,_⟩:=I.list hl;exact PySem.W.kia_one PySem.W.kitx_list I.kIn ⟨o,h1,h2⟩ e (λz=>nomatch z) h
theorem NB (K:PySem.W.Frag)(d:D)(hd:∀n,d≠.ty n):
  PySem.W.kitOne K (.type (k9 d)) (.type "int")=some (k9 d == "int" || k9 d == "bool")/\PySem.W.kitOne K (.type (k9 d)) (.type "bool")=some (k9 d == "bool")/\PySem.W.kitOne K (.type (k9 d)) (.type "str")=some (k9 d == "str") /\
   PySem.W.kitOne K (.type (k9 d)) (.type "list")=some (k9 d == "list")/\PySem.W.kitOne K (.type (k9 d)) (.type "tuple")=some (k9 d == "tuple"):=by
 cases d<;>(first|exact absurd rfl (hd _)|skip)
 all_goals (simp only[k9];refine⟨?_,?_,?_,?_,?_⟩<;>kernel_rfl)
theorem jL:bT X (.builtin "isinstance") (A6 X.K cF):=by
 intro ae s σ H xs us Q I rs q;obtain⟨B,ds,d,b,sB,i,e,q⟩:=q;match ds,i,e with
 |[dx,.ty n],.cons i1 (.cons i2 .nil),e=>
  obtain⟨u1,u2,rfl,r1,r2⟩:=Fg rs;cases i2
  cases r2
  simp only[cF]at e;split at e
  ·cases e
  ·rename_i ht;have hd:∀n,dx≠.ty n:=λn z=>by subst z;exact ht rfl
   obtain⟨k1,k2,k3,k4,k5⟩:=NB X.K dx hd;have mo:∀ {k:Bool},PySem.W.kitOne X.K (.type (k9 dx)) (.type n)=some k->Fin X.K B H (.bl k) false Q->wpAny (model X.prog X.w) X.A (call (.builtin "isinstance") [u1,.type n]) (EP X ae σ Q) X.xe s:=λ{k} hk q=>
    J0 I (i1.mono sB) hd r1 hk λtk=>⟨.bl k,H,I.tok tk,rfl,q.one sB (.bl k)⟩
   unfold BV at e;split at e
   ·rename_i z;subst z;cases e;exact mo k1 q
   split at e
   ·rename_i z;subst z;cases e;exact mo k2 q
   split at e
   ·rename_i z;subst z;cases e;exact mo k3 q
   split at e
   ·rename_i z;subst z;cases e;exact mo k4 q
   split at e
   ·rename_i z;subst z;cases e;exact mo k5 q
   ·cases e
@[simp] noncomputable def VF:D->Option (D×Bool)
 |.int i=>some (.int (Builtin.Int.intBits i),false)
 |_=>none
@[simp] def FP (f:FE):FA:=λρ=>(f ρ).bind λx=>gH x.1
theorem BW (h:JE X e f):JI X tg e (FP f):=by
 intro ae s σ H R I q;obtain⟨B,ρ,ds,sB,r,e',q⟩:=q;obtain⟨x,ex,es⟩:=oX e';obtain⟨xd,xb⟩:=x;cases xd<;>simp only[gH]at es<;>try (cases es;done)
 ·cases es
  refine MH h ae s σ H R I ⟨B,ρ,_,_,sB,r,ex,λv H1 N1 x1 i1 _=>?_⟩;cases i1 with
  |@tup a vs _ ht hl=>
   refine⟨a,rfl,⟨vs,bu x1.nh ht⟩,q _ H1 N1 x1 λi H2 s2=>⟨λd ed=>?_,λbK=>⟨vs,bu s2 ht,by rw[hl.length];exact bK⟩⟩⟩;obtain⟨v,ev,iv⟩:=hl.get ed;refine⟨⟨vs,v,bu s2 ht,ev⟩,λy H3 hy=>?_⟩;obtain⟨rfl,hy⟩:=hy;have:=hy vs (bu s2 ht);rw[ev]at this;cases this;exact⟨N1,.refl s2,iv⟩
 ·cases es
  refine IJ h ae s σ H R I ⟨B,ρ,_,_,sB,r,ex,λv H1 N1 x1 i1 _=>?_⟩;cases i1 with
  |@lst a vs _ ht hl=>
   refine⟨a,rfl,⟨vs,x1.nh.seq ht⟩,q _ H1 N1 x1 λi H2 s2=>⟨λd ed=>?_,λbK=>⟨vs,s2.seq ht,by rw[hl.length];exact bK⟩⟩⟩;obtain⟨v,ev,iv⟩:=hl.get ed;refine⟨⟨vs,v,s2.seq ht,ev⟩,λy H3 hy=>?_⟩;obtain⟨rfl,hy⟩:=hy;have:=hy vs (s2.seq ht);rw[ev]at this;cases this;exact⟨N1,.refl s2,iv⟩
noncomputable def gn (lo:Int)(n:Nat):List D:=(List.range n).map λ(k:Nat)=>.int (lo+(k:Int))
theorem FQ {K:PySem.W.Frag}{B:Hp}(lo:Int)(n:Nat):p9 K (Sq lo n) B (gn lo n):=by
 intro i H s;unfold gn;refine⟨λd ed=>?_,λhl=>by rw[vI,List.length_range]at hl;exact hl⟩;rw[vA]at ed;obtain⟨k,ek,ed⟩:=oY ed;have hk:=vV ek;obtain⟨fN,hk⟩:=hk;rw[List.length_range]at fN;rw[List.getElem_range]at hk;subst hk;subst ed;refine⟨fN,λx H' hy=>?_⟩;obtain⟨rfl,rfl⟩:=hy;exact⟨B,.refl s,.int _⟩
@[simp] def fu (f:FE):FA:=λρ=>match f ρ with
 |some (.int j,_)=>if -1000<=j/\j<=1000 then some (gn 0 j.toNat)else none
 |_=>none
theorem iz (hm:X.mg "range" = none)(h:JE X a f)(hg:Gl X "range":=by rfl)(hs:starEach [a] X.env=[(false,eval a X.env)]:=by rfl):PI X tg (.Call (.Name "range" p) [a] [] pos) (Su X.K (fu f)):=by
 refine PI.to (Du hg hm (ah h am hs) hs) λσ H R q=>?_;obtain⟨B,ρ,ds,sB,r,e',q⟩:=q;unfold fu at e';split at e'
 ·rename_i j b' ef;split at e'
  ·rename_i hj;cases e'
   refine⟨B,ρ,[.int j],sB,r,by simp[af,aj,ef],λvs H1 N1 x1 i1=>?_⟩;cases i1 with
   |cons i1 i2=>
    cases i1;cases i2
    exact⟨j,rfl,by omega,by omega,q _ H1 N1 x1 λ_=>FQ 0 j.toNat⟩
  ·cases e'
 ·cases e'
theorem FR (hm:X.mg "range" = none)(h:JE X a f)(hg:Gl X "range":=by rfl)(hs:starEach [a] X.env=[(false,eval a X.env)]:=by rfl):JI X tg (.Call (.Name "range" p) [a] [] pos) (fu f) :=
 PI.to (iz hm h hg hs) λσ H R ⟨B,ρ,ds,sB,r,e',q⟩=>⟨B,ρ,ds,sB,r,e',λJ H' N x h=>q J H' N x (h _)⟩
end
def dN (K:PySem.W.Frag)(x:Str)(st:Stmt):Prop:=∃(f:Addr)(fd:FuncData),Oz K x x st f fd/\PySem.W.nsIn K mainGlobals x=some (some (.ref f))
theorem def_mk {K:PySem.W.Frag}{x:Str}{st:Stmt}{f:Addr}{oc:Value}{od an:Option Addr}{pz:Array (Option Value)}{kV doc pm eU ct:Value}(a:PySem.W.nsIn K mainGlobals x=some (some (.ref f)))
  (l:K.lookup f=some ⟨oc,od,.func (PySem.W.fnOf x x (gB st) (cO st) (aQ st) .none kV doc pm an eU ct),pz⟩) (c:PySem.W.codeIn K eU x=true) (k:PySem.W.keepIn K (.ref f)=true):dN K x st:=⟨f,_,Nb l c k,a⟩
section
variable {P:Program}{w:World}{K:PySem.W.Frag}{mg:Str->Option Value}{base:Heap}
theorem dN.fn {x:Str}{st:Stmt}{N ps:List Str}{k:Nat}{g:FS}{h:Heap}(F:dN K x st)(X:K.In h)(G:h.Ns mainGlobals mg)(S:FnScope N ps (aQ st))
  (KW:∀(kV doc pm:Value)(an:Option Addr)(eU ct:Value)(us:List Value),us.length=ps.length->bindArgs (PySem.W.fnOf x x (gB st) (cO st) (aQ st) .none kV doc pm an eU ct) ⟨us,[]⟩=pure (ps.zip us))
  (hb:∀(f:Addr)(eU:Value)(A:Around)(outer:List PySem.Env)(s:Shared)(H:Hp)(E:XK),fg k (A.deeper (envOfC x (aQ st) s.heap.objs.size f eU))->xG (p7 Ak P w K mg base N x (aQ st) f eU A outer s H E).nox (cO st) g):
  Fn P w K mg base (k+1) x (aN g ps.length (N.length - ps.length)):=by
 obtain⟨f,fd,F1,a⟩:=F;exact⟨f,fd,ps,Q7 F1 S (hb f),PySem.W.mg_of X G a,F1.kp,F1.binds KW⟩
end
def QG (H:Hp):Prop:=∀b,H b=none∨(∃o xs,H b=some (.frz o (.lst xs)))∨∃q,H b=some (.tbl q)
noncomputable def qk (kq:List (Addr×Str))(G:Hp):Hp:=λb=>match kq.lookup b with|some q=>some (.tbl q)|none=>G b
theorem gI (e:kq.lookup b=some q):qk kq G b=some (.tbl q):=by unfold qk;rw[e]
theorem jw (e:kq.lookup b=none):qk kq G b=G b:=by unfold qk;rw[e]
theorem DE {P:Program}{w:World}{K:PySem.W.Frag}{mg mb:Str->Option Value}{k:Nat}{fa a:Addr}{fd:FuncData}{x:Str}{sp:Sp}{s₁:Shared}{vs:List Value}{ns:List Int}(kq:List (Addr×Str))
  (ht:∀b q,kq.lookup b=some q->s₁.heap.get? b=some (PySem.W.tabObj #[])/\isCodeTable s₁.heap b) (Yt:PySem.W.noTabs K=true)
  (KX:K.In s₁.heap) (Pq:s₁.heap.Ns mainGlobals mg) (hb:s₁.heap.Ns builtinsNs mb) (Yu:∀x:Str,x ≠ "__name__"->mb x=bootBuiltins x) (U7:s₁.heap.NoLimit)
  (Yv:∃bm ob,mg "__builtins__" = some (.ref bm)/\bm≠builtinsNs/\s₁.heap.get? bm=some ob/\ob.cls=.type "module"/\ob.dict=some builtinsNs/\ob.data=.plain) (hg:s₁.gens=#[])
  (ha:s₁.heap.get? a=some { cls:=.type "list",data:=.seq vs.toArray }) (hi:IntsAre vs ns) (hl:ns.length<=sizeLine) (hr:fg k callerA)
  (F:∀base:Heap,K.In base->base.Ns mainGlobals mg->tH P w K mg base Ak k fa fd [x] sp) (Ab:∀(s:Shared)(u:Value),BindsTo s fd ⟨[u],[]⟩ [(x,u)])
  (Pn:∀H:Hp,(∀b q,kq.lookup b=some q->H b=some (.tbl q))->iP K H a (ns.map V.int)->sp [.ref a] H (λv _=>v=.bl true) λ_ _ _=>False):
  codeAny (model P w) callerA (.call (.ref fa) ⟨[.ref a],[]⟩) (λr s'=>r=.ok (.ret (.bool true))/\OldK s₁.heap s'.heap/\s'.os=s₁.os/\AllBare s'.gens) s₁:=by
 have rv:=L2.ij hi;have U8:=hi.length;have R1:∀H:Hp,QG H->(∀b q,kq.lookup b=some q->H b=some (.tbl q))->iP K H a (ns.map V.int)->lz P w H s₁.heap->(∀b q,H b=some (.tbl q)->s₁.heap.get? b=some (PySem.W.tabObj #[])/\isCodeTable s₁.heap b) ->
   (∀b o u,H b=some (.frz o u)->b=a)->(∀b o u,H b=some (.frz o u)->K.lookup b=none) ->
   codeAny (model P w) callerA (.call (.ref fa) ⟨[.ref a],[]⟩) (λr s'=>r=.ok (.ret (.bool true))/\OldK s₁.heap s'.heap/\s'.os=s₁.os/\AllBare s'.gens) s₁:=by
  intro H hO hT hS hok hA hB hK;have KJ:∀ {b:Addr}{o:Obj},s₁.heap.get? b=some o->(o.cls≠.none)->(o.cls≠.type "list")->H b=none:=λ{b o} e d d'=>by
   rcases hO b with q|⟨ob,xs,q⟩|⟨u,q⟩
   ·exact q
   ·have e':b=a:=hB b _ _ q;subst e';rw[ha]at e;cases e;exact absurd rfl d'
   ·rw[(hA b u q).1]at e;cases e;exact absurd rfl d
  have Yw:∀ {b:Addr}{o:Obj}{es:Array DictEntry}{ep:Nat},s₁.heap.get? b=some o->o.data=.dict es ep->H b=none:=λ{b o es ep} e d=>by
   rcases hO b with q|⟨ob,xs,q⟩|⟨u,q⟩
   ·exact q
   ·have e':b=a:=hB b _ _ q;subst e';rw[ha]at e;cases e;cases d
   ·rw[(hA b u q).1]at e;cases e;cases d
  have SM:∀ {b:Addr}{m:Str->Option Value},s₁.heap.Ns b m->(xM s₁.heap H).Ns b m:=λ{b m} ⟨o,es,ep,e,d,r⟩=>⟨o,es,ep,pX e (Yw e d),d,r⟩;have Wv:K.In (xM s₁.heap H):=λb o e=>pX (KX b o e) (by
   rcases hO b with q|⟨ob,xs,q⟩|⟨u,q⟩
   ·exact q
   ·rw[hK b _ _ q]at e;cases e
   ·have z:=(hA b u q).1;rw[KX b o e]at z;cases z
    have:=uR Yt _ (PySem.W.mem_of_lookupK e);simp at this)
  have hM:Mod K mg (xM s₁.heap H):=⟨Wv,SM Pq,⟨mb,SM hb,Yu⟩,let ⟨mc,h1,h2⟩:=U7;⟨mc,SM h1,h2⟩,by
   obtain⟨bm,ob,b1,b2,b3,b4,b5⟩:=Yv;exact⟨bm,ob,b1,b2,pX b3 (KJ b3 (by rw[b4];exact λz=>nomatch z) (by rw[b4];intro z;injection z with z;exact absurd z (by decide))),b4,b5⟩⟩
  have e0:Env0 P w K mg (xM s₁.heap H) callerA [] s₁ H:=⟨rfl,hM,λb o e=>IC e,Nat.le_of_eq (Dr _ _),trivial,λb hb=>absurd (show b∈([]:List Addr)from hb) (by simp),hok,.of_eq hg⟩;refine codeAny_mono ((F _ Wv (SM Pq)).run callerA [] s₁ H ⟨[.ref a],[]⟩ [.ref a] [.ref a] _ _ hr e0 (Ab s₁ (.ref a)) (.cons rfl .nil) (Pn H hT hS)) λr s' h=>?_;cases r with
  |error e=>exact False.elim h
  |ok fl=>
   cases fl with
   |next=>exact False.elim h
   |brk=>exact False.elim h
   |cont=>exact False.elim h
   |ret u=>
    obtain⟨v,H',os,bare,un,R3,r',q⟩:=h;have q':v=.bl true:=q;subst q';obtain rfl:u=Value.bool true:=r';have kp:∀b o,H b=none->s₁.heap.get? b=some o->s'.heap.get? b=some o:=λb o n e=>un.keep b o e n (by intro z;exact absurd (show b∈([]:List Addr)from z) (by simp)) (by simp);refine⟨rfl,⟨λb o e=>?_,λb o e=>un.there b o e (by simp)⟩,os,bare⟩;rcases hO b with z|⟨ob,xs,z⟩|⟨u,z⟩
    ·exact .inl (kp b o z e)
    ·have z2:=un.frzs b ob _ z;obtain⟨e1,_⟩:=hok b _ z;obtain⟨e2,_⟩:=R3 b _ z2;rw[e]at e1;cases e1;exact .inl e2
    ·obtain⟨e1,e2⟩:=hA b u z;rw[e]at e1;cases e1;obtain⟨ps,e3,_⟩:=R3 b _ (un.tbls b u z);exact .inr (.inl ⟨e2,rfl,#[],ps,rfl,by simpa using e3⟩)
 have O2:∀q,kq.lookup a≠some q:=λq z=>by
  have:=(ht a q z).1;rw[ha]at this;cases this
 have ta:kq.lookup a=none:=by
  cases z:kq.lookup a with
  |none=>rfl
  |some q=>exact absurd z (O2 q)
 have Mh:∀(G:Hp) b q,kq.lookup b=some q->bR P w (qk kq G) s₁.heap b (.tbl q):=λG b q z=>⟨#[],(ht b q z).1,trivial,λpos cv c=>by cases c⟩;cases hk:K.lookup a with
 |some o=>
  have e:=KX a o hk;rw[ha]at e;cases e
  refine R1 (qk kq λ_=>none) (λb=>?_) (λb q z=>gI z) (.inr ⟨_,vs.toArray,_,hk,rfl,rfl,rfl,by rw[vH,U8];exact hl,by simpa using rv⟩) (λb u z=>?_) (λb q z=>?_) (λb o u z=>?_) λb o u z=>?_
  all_goals cases zt:kq.lookup b with
   |none=>first|exact .inl (jw zt)|(rw[jw zt]at z;cases z)
   |some q'=>first|exact .inr (.inr ⟨q',gI zt⟩)|(rw[gI zt]at z;cases z;done)|(rw[gI zt]at z;cases z;first|exact Mh _ b _ zt|exact ht b _ zt)
 |none=>
  refine R1 (qk kq λb=>if b=a then some (.frz { cls:=.type "list",data:=.seq vs.toArray } (.lst (ns.map V.int)))else none) (λb=>?_) (λb q z=>gI z) (.inl (.inr ⟨{ cls:=.type "list",data:=.seq vs.toArray },by rw[jw ta,if_pos rfl]⟩)) (λb u z=>?_) (λb q z=>?_) (λb o u z=>?_) λb o u z=>?_
  all_goals cases zt:kq.lookup b with
   |some q'=>first|exact .inr (.inr ⟨q',gI zt⟩)|(rw[gI zt]at z;cases z;done)|(rw[gI zt]at z;cases z;first|exact Mh _ b _ zt|exact ht b _ zt)
   |none=>
    first
    |rw[jw zt]at z
    |rw[jw zt]
    by_cases hb:b=a
    ·first
     |rw[if_pos hb]at z
     |rw[if_pos hb]
     first
     |exact .inr (.inl ⟨_,_,rfl⟩)
     | (cases z;subst hb;exact⟨ha,by rw[vI];exact hl,vs,_,rv,ha⟩)
     |exact hb
     | (rw[hb];exact hk)
     |cases z
    ·first
     | (rw[if_neg hb]at z;cases z)
     |exact .inl (if_neg hb)
noncomputable def wD (L:List (Str×Option (Addr×Addr))):List (Addr×Str):=L.filterMap λp=>p.2.map λq=>(q.2,qd p.1)
structure pV (K:PySem.W.Frag)(L:List (Str×Option (Addr×Addr))):Prop where
 names:L=m5.map λx=>(x,PySem.W.tabIn K x)
 apart:((wD L).map (·.1)).Nodup
 none:PySem.W.noTabs K=true
theorem lC {α β:Type}[BEq α][LawfulBEq α]:∀ {l:List (α×β)}{a:α}{b:β},(l.map (·.1)).Nodup->(a,b)∈l->l.lookup a=some b
 | (c,d)::l,a,b,nd,h=>by
  rw[List.lookup_cons];rcases vP h with e|h
  ·cases e;simp
  ·have ne:a≠c:=λz=>(List.nodup_cons.mp nd).1 (by rw[←z];exact uS ⟨(a,b),h,rfl⟩);rw[show(a == c)=false by simpa using ne];exact lC (List.nodup_cons.mp nd).2 h
theorem kB {α β:Type}[BEq α][LawfulBEq α]:∀ {l:List (α×β)}{a:α}{b:β},l.lookup a=some b->(a,b)∈l
 | (c,d)::l,a,b,h=>by
  rw[List.lookup_cons]at h;cases e:a == c with
  |true=>rw[e]at h;cases h;rw[eq_of_beq e];exact mX
  |false=>rw[e]at h;exact mZ _ (kB h)
theorem pV.tb {K:PySem.W.Frag}{L:List (Str×Option (Addr×Addr))}(F:pV K L){H:Hp}(h:∀b q,(wD L).lookup b=some q->H b=some (.tbl q)):Tb K H:=λx hx c P e=>by
 refine h P (qd x) (lC F.apart ?_);rw[F.names];exact List.mem_filterMap.mpr ⟨(x,PySem.W.tabIn K x),uS ⟨x,hx,rfl⟩,by rw[e];rfl⟩
theorem tab_yes {K:PySem.W.Frag}{x:Str}{f c P:Addr}{oc Yx:Value}{od U9:Option Addr}{pz O3:Array (Option Value)}{fd:FuncData}{vs:Array Value}(e1:PySem.W.nsIn K mainGlobals x=some (some (.ref f)))(e2:K.lookup f=some ⟨oc,od,.func fd,pz⟩)(e3:fd.code=.ref c)
  (e4:K.lookup c=some ⟨Yx,U9,.fields vs,O3⟩) (e5:vs[11]? = some (.ref P)):PySem.W.tabIn K x=some (c,P):=by unfold PySem.W.tabIn;simp only[e1,e2,e3,e4,e5]
theorem tabs_fit {K:PySem.W.Frag}{t0 t1 t2 t3:Option (Addr×Addr)}(h0:PySem.W.tabIn K "in_order" = t0)(h1:PySem.W.tabIn K "has_seal" = t1)(h2:PySem.W.tabIn K "is_first_death" = t2)(h3:PySem.W.tabIn K "bases_by" = t3)
  (ap:((wD [("in_order",t0),("has_seal",t1),("is_first_death",t2),("bases_by",t3)]).map (·.1)).Nodup) (nt:PySem.W.noTabs K=true):pV K [("in_order",t0),("has_seal",t1),("is_first_death",t2),("bases_by",t3)] :=
 ⟨by subst h0;subst h1;subst h2;subst h3;rfl,ap,nt⟩
theorem walkD {l:PySem.W.OpenLaw}{q:Program}{Di:List Str}{XP:(Str->Option Value)->Heap->Prop}{YP:World->Heap->Prop}{d:DefRec}{K:Params->PySem.W.Frag}{k:Nat}{x:Str}{f:List D->Option (D×Bool)}{L:List (Str×Option (Addr×Addr))}(hn:l.most=some 63)(Rn:d.params.defaults=[])(hr:fg k callerA)
  (hY:∀(w:World)(h:Heap),YP w h->(K w.params).In h) (hT:∀w:World,pV (K w.params) L) (hD:(L.all λp=>p.2.isNone || ((recsOf q).find? λe=>e.name == p.1).isSome)=true)
  (F:∀(w:World)(mg:Str->Option Value)(fa:Addr)(h:Heap),(K w.params).In h->h.Ns mainGlobals mg->mg d.name=some (.ref fa) ->
   ∃fd:FuncData,(∀(s:Shared)(u:Value),BindsTo s fd ⟨[u],[]⟩ [(x,u)])/\∀base:Heap,(K w.params).In base->base.Ns mainGlobals mg->tH l.prog w (K w.params) mg base Ak k fa fd [x] (Ju (K w.params) f))
  (ht:∀ns:List Int,ns.length<=63->∃b,f [.lst (ns.map .int)]=some (.bl true,b)):PySem.W.WalkO q Di XP YP l.row.toRowW d [] (λf vs=>PySem.call f vs):=by
 refine Att.xT hn Rn λw s₀ s₁ mg mb fa o pm cd doc a vs ns G Y ho hd jG hmg Oy HP bK hg=>?_;have KX:=hY w _ Y;obtain⟨fd,hb,hF⟩:=F w mg fa _ KX G.T.g hmg;refine DE (wD L) (λb u e=>?_) (hT w).none KX G.T.g G.T.b G.T.builtins G.T.nolimit G.T.bmain hg Oy HP (vR bK (by decide)) hr hF hb λH hH hS=>?_
 ·obtain⟨p,hp,e2⟩:=List.mem_filterMap.mp (kB e);obtain⟨⟨c,P⟩,e3,e4⟩:=oY e2;cases e4
  have UA:=uR hD p hp;rw[e3]at UA;rw[Option.isNone_some,Bool.false_or]at UA;obtain⟨r,Yy⟩:=uU UA;have R4:PySem.W.tabIn (K w.params) p.1=some (c,P):=by
   rw[(hT w).names]at hp;obtain⟨y,_,rfl⟩:=vO hp;exact e3
  obtain⟨h1,h2⟩:=PySem.W.tab_of G.T KX Yy R4;exact⟨h2,(h1.tab h2).isCodeTable⟩
 ·obtain⟨b,e⟩:=ht ns bK;exact⟨H,_,_,b,⟨.refl H,(hT w).tb hH⟩,.cons (.lst hS (.flat rfl)) .nil,e,λv H' N x' i' _=>by cases i';rfl⟩
theorem dN.law {P:Program}{w:World}{K:PySem.W.Frag}{mg:Str->Option Value}{x y:Str}{st:Stmt}{N:List Str}{k:Nat}{g:FS}{h:Heap}{fa:Addr}(F:dN K x st)(X:K.In h)(G:h.Ns mainGlobals mg)(UB:mg x=some (.ref fa))(S:FnScope N [y] (aQ st))
  (KW:∀(kV doc pm:Value)(an:Option Addr)(eU ct:Value)(u:Value),bindArgs (PySem.W.fnOf x x (gB st) (cO st) (aQ st) .none kV doc pm an eU ct) ⟨[u],[]⟩=pure [(y,u)])
  (hb:∀(base:Heap),K.In base->base.Ns mainGlobals mg->∀(f:Addr)(eU:Value)(A:Around)(outer:List PySem.Env)(s:Shared)(H:Hp)(E:XK),fg k (A.deeper (envOfC x (aQ st) s.heap.objs.size f eU))->xG (p7 Ak P w K mg base N x (aQ st) f eU A outer s H E).nox (cO st) g):
  ∃fd:FuncData,(∀(s:Shared)(u:Value),BindsTo s fd ⟨[u],[]⟩ [(y,u)])/\∀base:Heap,K.In base->base.Ns mainGlobals mg->tH P w K mg base Ak (k+1) fa fd [y] (Ju K (aN g 1 (N.length - 1))):=by
 obtain⟨f,fd,F1,a⟩:=F;have e:=UB.symm.trans (PySem.W.mg_of X G a);cases e
 refine⟨fd,λs u=>?_,λbase kb nb=>Q7 F1 S (hb base kb nb _)⟩;obtain⟨oc,od,kV,doc,pm,an,eU,ct,pz,rfl,lk,jG⟩:=F1.ex;exact .of_eq (KW kV doc pm an eU ct u)
section
variable {X:Cx}{a b e:Expr}{pos:Pos}{x:Str}{p:Pos}
@[simp] noncomputable def FU:D->D->Option (D×Bool)
 |.lst xs,.lst ys=>if xs.length+ys.length<=sizeLine then some (.lst (xs++ys),true)else none
 |_,_=>none
theorem NC:dR X (binaryOp .Add) (rD X.K FU):=by
 intro ae s σ H x y v u Q I rx ry q;obtain⟨B,dx,dy,d,bb,sB,ix,iy,ee,q⟩:=q;cases ix<;>cases iy<;>try (simp[FU]at ee;done)
 rename_i l vs ds h hl l' ws es h' EE;simp only[FU]at ee;split at ee
 ·rename_i hz;cases ee
  cases rx
  cases ry
  obtain⟨its,r1,p1,z1⟩:=I.list (sB.seq h);obtain⟨gA,r2,p2,z2⟩:=I.list (sB.seq h');obtain⟨⟨c1,d1,t1,s1⟩,o1,e1,n1,k1⟩:=p1.isList;obtain⟨⟨c2,d2,t2,s2⟩,o2,e2,n2,k2⟩:=p2.isList;dsimp only at e1 k1 e2 k2;subst e1;subst k1;subst e2;subst k2;have hsz:its.toArray.size+gA.toArray.size<=sizeLine:=by
   rw[vH,vH,←r1.length,←r2.length,hl.length,EE.length];exact hz
  have ea:its.toArray++gA.toArray=(its++gA).toArray:=by simp
  refine concat_meets ⟨_,o1,rfl⟩ ⟨_,o2,rfl⟩ noFill_list_add seq_list_add PySem.F.slot_list_add PySem.F.entry_list_add (PySem.F.args_list_add_2 _ _) (list_addW l l' its.toArray gA.toArray n1 n2 d1 d2 s1 s2 hsz) ⟨o1,o2,?_⟩;rw[ea];have xt:=Ext.laid (o:=.lst (vs++ws)) sB I.fresh;have il:=(hl.append EE).mono xt.bn;exact⟨.ref s.heap.objs.size,_,I.lnew (t':=s.toks) (r1.append r2) (by rw[uZ,hl.length,EE.length];exact hz),rfl,q _ _ _ xt (.lst (iP.of aG) il) λ_=>⟨_,_,_,rfl,rfl,I.fresh,aG,il⟩⟩
 ·cases ee
@[simp] noncomputable def ql:D->D->Option (D×Bool)
 |.tup xs,.tup ys=>if xs.length+ys.length<=sizeLine/\xs.isEmpty=false then some (.tup (xs++ys),false)else none
 |_,_=>none
theorem FV:dR X (binaryOp .Add) (rD X.K ql):=by
 refine je IW λx y H Q q=>?_;obtain⟨B,dx,dy,d,bb,sB,ix,iy,ee,q⟩:=q;cases ix<;>cases iy<;>try (simp[ql]at ee;done)
 rename_i l vs ds h hl l' ws es h' EE;simp only[ql]at ee;split at ee
 ·rename_i hz;cases ee
  have l1:=hl.length;have l2:=EE.length;refine⟨l,l',vs,ws,rfl,rfl,bu sB h,bu sB h',λz=>?_,by omega,λz=>?_,λ_ pp hp=>?_⟩
  ·subst z;cases hl
   simp at hz
  ·subst z;cases EE
   rw[uQ]at q;exact q.one sB (.tup h hl)
  ·have xt:=Ext.laid (o:=.tup (vs++ws)) sB hp;exact q _ _ _ xt (.tup (jo.of aG) ((hl.append EE).mono xt.bn)) (by simp)
 ·cases ee
@[simp] noncomputable def DF:D->D->Option (D×Bool)
 |.bl i,.int j=>some (.int ((if i=true then 1 else 0)+j),false)
 |.int i,.bl j=>some (.int (i+b2i j),false)
 |_,_=>none
theorem ND:dR X (binaryOp .Add) (rD X.K DF):=by
 intro ae s σ H x y v u Q I rx ry q;obtain⟨B,dx,dy,d,bb,sB,ix,iy,ee,q⟩:=q;cases ix<;>cases iy<;>try (simp[DF]at ee;done)
 ·simp only[DF]at ee;cases ee
  cases rx
  obtain⟨t,rfl⟩:=ry;exact IntBool.add_bool_int ⟨.int _,H,I.tok _,⟨_,rfl⟩,q.one sB (.int _)⟩
 ·simp only[DF]at ee;cases ee
  exact Dw ae s σ H _ _ v u Q I rx ry ⟨_,_,rfl,rfl,q.one sB (.int _)⟩
@[simp] noncomputable def bY:D->D->Option (D×Bool)
 |.int i,.int j=>some (.int (i+j),false)
 |.str i,.str j=>if i.length+j.length<=sizeLine then some (.str (i++j),false)else none
 |.lst xs,.lst ys=>if xs.length+ys.length<=sizeLine then some (.lst (xs++ys),true)else none
 |.tup xs,.tup ys=>if xs.length+ys.length<=sizeLine/\xs.isEmpty=false then some (.tup (xs++ys),false)else none
 |.bl i,.int j=>some (.int ((if i=true then 1 else 0)+j),false)
 |.int i,.bl j=>some (.int (i+b2i j),false)
 |_,_=>none
theorem bx:dR X (binaryOp .Add) (rD X.K bY):=by
 refine je (r:=rD X.K (EL BR (EL FU (EL ql DF)))) (nW Jx (nW NC (nW FV ND))) λx y H Q q=>?_;obtain⟨B,dx,dy,d,bb,sB,ix,iy,ee,q⟩:=q;refine⟨B,dx,dy,d,bb,sB,ix,iy,?_,q⟩;cases dx<;>cases dy<;>simp[bY]at ee<;>simp[EL,BR,FU,ql,DF,ee]
@[simp] noncomputable def TD:D->Option Bool
 |.bl b=>some b
 |_=>none
def qm:List D->Option (List Bool)
 |[]=>some []
 |d::ds=>(TD d).bind λb=>(qm ds).map (b :: ·)
@[simp] theorem QH:qm []=some []:=rfl
@[simp] theorem DG (d:D)(ds:List D):qm (d::ds)=(TD d).bind λb=>(qm ds).map (b :: ·):=rfl
theorem wE {K:PySem.W.Frag}{B:Hp}:∀ {vs:List V}{ds:List D}{bs:List Bool}{its:List Value},L2.aX vs its->IsL K B vs ds->qm ds=some bs->its=bs.map Value.bool
 |_,_,_,_,.nil,.nil,e=>by cases e;rfl
 |_,_,_,_,.cons r rr,.cons i ii,e=>by
  rw[DG]at e;obtain⟨b,e1,e⟩:=oX e;obtain⟨bs,e2,e⟩:=oY e;subst e;cases i<;>simp only[TD]at e1<;>try (cases e1;done)
  cases e1
  cases r
  rw[wE rr ii e2];rfl
@[simp] def NE:List D->Option (D×Bool)
 |[.lst ds]=>(qm ds).map λbs=>(.bl (bs.all id),false)
 |_=>none
@[simp] def AM:List D->Option (D×Bool)
 |[.lst ds]=>(qm ds).map λbs=>(.bl (bs.any id),false)
 |_=>none
theorem QI (hc:X.calm=true:=by rfl):bT X (.builtin "all") (A6 X.K NE):=by
 intro ae s σ H xs us Q I rs q;obtain⟨B,ds,d,bb,sB,i,ee,q⟩:=q;match ds,i,ee with
 |[.lst es],.cons i1 .nil,ee=>
  obtain⟨bs,eb,ee⟩:=oY ee;cases ee
  obtain⟨u1,rfl,r1⟩:=gZ rs;cases i1 with
  |@lst l vs _ h hl=>
   cases r1
   obtain⟨its,rv,p1,z1⟩:=I.list (sB.seq h);have ei:=wE rv hl eb;have fN:l<s.heap.objs.size:=by obtain⟨_,e0,_⟩:=p1.isList;exact vX e0
   refine call_all_walk (wpAny_pyIter_list p1.isList ⟨_,_,_,_,_,_,λj=>(bs[j]?).getD true,rfl,Walks.list (A:=X.A.in1) (I.ok.hd hc) s.heap.objs.size l (vS fN) its.toArray,⟨⟨_,vY _ rfl,rfl,rfl⟩,p1.isList.push _⟩,λj v s' Q' E' hP hQ=>?_,λh' tk hk=>?_⟩)
   ·have R5:its[j]? = some v:=by simpa using hP
    rw[ei,vA]at R5;obtain⟨c,e1,e2⟩:=oY R5;subst e2;dsimp only at hQ;rw[e1]at hQ;exact wpAny_truthy_bool hQ
   ·have ea:((List.range its.toArray.size).all λj=>(bs[j]?).getD true)=bs.all id:=by
     rw[vH,ei,vI];exact LSm.range_all bs
    rw[ea];refine⟨.bl _,H,I.kept λc o e0=>?_,rfl,q.one sB (.bl _)⟩;exact hk c o (λhm=>by rw[uT hm]at e0;exact Nat.lt_irrefl _ (vX e0)) (vZ _ e0)
theorem FW (hc:X.calm=true:=by rfl):bT X (.builtin "any") (A6 X.K AM):=by
 intro ae s σ H xs us Q I rs q;obtain⟨B,ds,d,bb,sB,i,ee,q⟩:=q;match ds,i,ee with
 |[.lst es],.cons i1 .nil,ee=>
  obtain⟨bs,eb,ee⟩:=oY ee;cases ee
  obtain⟨u1,rfl,r1⟩:=gZ rs;cases i1 with
  |@lst l vs _ h hl=>
   cases r1
   obtain⟨its,rv,p1,z1⟩:=I.list (sB.seq h);have ei:=wE rv hl eb;have fN:l<s.heap.objs.size:=by obtain⟨_,e0,_⟩:=p1.isList;exact vX e0
   refine call_any_walk (wpAny_pyIter_list p1.isList ⟨_,_,_,_,_,_,λj=>(bs[j]?).getD false,rfl,Walks.list (A:=X.A.in1) (I.ok.hd hc) s.heap.objs.size l (vS fN) its.toArray,⟨⟨_,vY _ rfl,rfl,rfl⟩,p1.isList.push _⟩,λj v s' Q' E' hP hQ=>?_,λh' tk hk=>?_⟩)
   ·have R5:its[j]? = some v:=by simpa using hP
    rw[ei,vA]at R5;obtain⟨c,e1,e2⟩:=oY R5;subst e2;dsimp only at hQ;rw[e1]at hQ;exact wpAny_truthy_bool hQ
   ·have ea:((List.range its.toArray.size).any λj=>(bs[j]?).getD false)=bs.any id:=by
     rw[vH,ei,vI];exact LSm.range_any bs
    rw[ea];refine⟨.bl _,H,I.kept λc o e0=>?_,rfl,q.one sB (.bl _)⟩;exact hk c o (λhm=>by rw[uT hm]at e0;exact Nat.lt_irrefl _ (vX e0)) (vZ _ e0)
theorem FX:bootBuiltins "any" = some (.builtin "any"):=by decide +kernel
end
noncomputable def Sx (z:Str):It:=⟨λi _=>i<z.cps.size,λi H v H'=>H'=H/\∃c,z.cps[i]? = some c/\v=.str ⟨#[c]⟩,λi _=>z.cps.size<=i⟩
theorem yy {P:Program}{w:World}{K:PySem.W.Frag}{tg:Expr}(z:Str)(t:Tok)(it:Addr):Turn P w K tg (Sx z) [it] it (λi h=>h.IsStrIter it "str_ascii_iterator" z t i) where
 mem:=List.mem_singleton.mpr rfl
 obj:=λi h st b hb=>by
  have eb:=uT hb;subst eb;obtain⟨o,e1,_,d1⟩:=st;exact⟨o,e1,λv zz=>by rw[d1]at zz;cases zz⟩
 keep:=λi h h' st k=>let ⟨o,e1,r⟩:=st;⟨o,k it (List.mem_singleton.mpr rfl) o e1,r⟩
 item:=by
  intro X hP hw hK hc i ae s σ H E I hf st hg;subst hP hw hK;have O4:i<z.cps.size:=hg;obtain⟨f0,f1,f2,f3,f4,f5⟩:=hf it (List.mem_singleton.mpr rfl);refine wpAny_pyNext_ascii_item st (c:=z.cps[i]) (by simp[O4]) λh' jm sb=>?_;obtain⟨o,e1,c1,d1⟩:=id jm;exact⟨_,rfl,pY (s:={ s with heap:=h',toks:=s.toks+1 }) e1 c1 d1 (by decide) ⟨.str ⟨#[z.cps[i]]⟩,H,I.turned (λb o hb e2=>(sb.2 b hb).trans e2) f0 f1 f3 f4 f5,⟨_,rfl⟩,⟨rfl,_,by simp[O4],rfl⟩,jm,λb hb=>(hf b hb).1⟩⟩
 done:=by
  intro X hP hw hK hc i ae s σ H E I hf st hg;subst hP hw hK;have O4:z.cps.size<=i:=hg;obtain⟨f0,f1,f2,f3,f4,f5⟩:=hf it (List.mem_singleton.mpr rfl);exact wpAny_pyNext_ascii_end (I.ok.hd hc) st (by simp;omega) λh' eb=>⟨rfl,I.turned (t':=s.toks) (λb o hb e2=>eb b o hb e2) f0 f1 f3 f4 f5⟩
 self:=λ_ _ _ _ _ st h=>wpAny_pyIter_striter_ascii st h
theorem yz {P:Program}{w:World}{K:PySem.W.Frag}{tg:Expr}(z:Str)(t:Tok)(it:Addr):Turn P w K tg (Sx z) [it] it (λi h=>h.IsStrIter it "str_iterator" z t i) where
 mem:=List.mem_singleton.mpr rfl
 obj:=λi h st b hb=>by
  have eb:=uT hb;subst eb;obtain⟨o,e1,_,d1⟩:=st;exact⟨o,e1,λv zz=>by rw[d1]at zz;cases zz⟩
 keep:=λi h h' st k=>let ⟨o,e1,r⟩:=st;⟨o,k it (List.mem_singleton.mpr rfl) o e1,r⟩
 item:=by
  intro X hP hw hK hc i ae s σ H E I hf st hg;subst hP hw hK;have O4:i<z.cps.size:=hg;obtain⟨f0,f1,f2,f3,f4,f5⟩:=hf it (List.mem_singleton.mpr rfl);refine wpAny_pyNext_wide_item st (c:=z.cps[i]) (by simp[O4]) λh' jm sb=>?_;obtain⟨o,e1,c1,d1⟩:=id jm;exact⟨_,rfl,pY (s:={ s with heap:=h',toks:=s.toks+1 }) e1 c1 d1 (by decide) ⟨.str ⟨#[z.cps[i]]⟩,H,I.turned (λb o hb e2=>(sb.2 b hb).trans e2) f0 f1 f3 f4 f5,⟨_,rfl⟩,⟨rfl,_,by simp[O4],rfl⟩,jm,λb hb=>(hf b hb).1⟩⟩
 done:=by
  intro X hP hw hK hc i ae s σ H E I hf st hg;subst hP hw hK;have O4:z.cps.size<=i:=hg;obtain⟨f0,f1,f2,f3,f4,f5⟩:=hf it (List.mem_singleton.mpr rfl);exact wpAny_pyNext_wide_end (I.ok.hd hc) st (by simp;omega) λh' eb=>⟨rfl,I.turned (t':=s.toks) (λb o hb e2=>eb b o hb e2) f0 f1 f3 f4 f5⟩
 self:=λ_ _ _ _ _ st h=>wpAny_pyIter_striter_wide st h
section
variable {X:Cx}{a b e:Expr}{pos:Pos}{x:Str}{p:Pos}{tg:Expr}
theorem FY {l:Expr}{tl:TE}(hl:PE X l tl):PI X tg l (λσ H R=>tl σ H λx H1=>∃z,x=.str z/\R (Sx z) H1):=by
 intro ae s σ H R I h;refine cY (hl ae s σ H _ I h) λv s1 ⟨x,H1,I1,r1,q1⟩=>?_;obtain⟨z,rfl,q⟩:=q1;obtain⟨t,rfl⟩:=r1;have fp:∀b∈[s1.heap.objs.size],nO X ae H1 b:=λb hb=>by
  rw[uT hb];exact I1.fpOk (vT _) (I1.hok.fresh (vT _))
 cases ha:z.cps.all (· < 128) with
 |true=>exact wpAny_pyIter_ascii ha ⟨_,[s1.heap.objs.size],_,_,H1,rfl,I1.kept (t':=s1.toks) λb o e=>vZ _ e,yy z t _,⟨_,vY _ rfl,rfl,rfl⟩,fp,q⟩
 |false=>exact wpAny_pyIter_wide ha ⟨_,[s1.heap.objs.size],_,_,H1,rfl,I1.kept (t':=s1.toks) λb o e=>vZ _ e,yz z t _,⟨_,vY _ rfl,rfl,rfl⟩,fp,q⟩
noncomputable def BX (z:Str):List D:=z.cps.toList.map λc=>.str ⟨#[c]⟩
theorem FZ {K:PySem.W.Frag}{B:Hp}(z:Str):p9 K (Sx z) B (BX z):=by
 intro i H s;refine⟨λd ed=>?_,λhl=>by unfold BX at hl;show z.cps.size<=i;simpa using hl⟩;unfold BX at ed;rw[vA]at ed;obtain⟨c,ec,rfl⟩:=oY ed;have Ww:z.cps[i]? = some c:=by simpa using ec
 refine⟨(Array.getElem?_eq_some_iff.mp Ww).1,λv H' hy=>?_⟩;obtain⟨rfl,c',e1,rfl⟩:=hy;rw[Ww]at e1;cases e1;exact⟨B,.refl s,.str _⟩
@[simp] def NF:D->Option (List D)
 |.lst ds=>some ds
 |.tup ds=>some ds
 |.str z=>some (BX z)
 |_=>none
@[simp] def cj (f:FE):FA:=λρ=>(f ρ).bind λx=>NF x.1
theorem c6 (h:JE X e f):JI X tg e (cj f):=by
 intro ae s σ H R I q;obtain⟨B,ρ,ds,sB,r,e',q⟩:=q;obtain⟨xx,ex,es⟩:=oX e';obtain⟨xd,xb⟩:=xx;cases xd with
 |lst l=>exact BW h ae s σ H R I ⟨B,ρ,ds,sB,r,by unfold FP;rw[ex];exact es,q⟩
 |tup l=>exact BW h ae s σ H R I ⟨B,ρ,ds,sB,r,by unfold FP;rw[ex];exact es,q⟩
 |str z=>
  cases es
  refine FY h ae s σ H R I ⟨B,ρ,_,_,sB,r,ex,λv H1 N1 x1 i1 _=>?_⟩;cases i1
  exact⟨z,rfl,q _ H1 N1 x1 (FZ z)⟩
 |_=>cases es
theorem J5:EK X (λx lo hi H Q=>∃z,x=.str z/\z.length<=sizeLine/\Q (.str (Txt.slice z lo hi)) H):=by
 intro ae s σ H x v vl vu lo hi sl Q I rx hs pl pu h;obtain⟨z,rfl,hz,q⟩:=h;obtain⟨t,rfl⟩:=rx;have mo:∀lo hi,Q (.str (Txt.slice z lo hi)) H->(Txt.slice z lo hi).length<=sizeLine/\∀t' k,EP X ae σ Q (.str (Txt.slice z lo hi) t') { s with toks:=k }:=λlo hi q=>
  ⟨vR (Txt.slice_le z _ _) hz,λt' k=>⟨.str _,H,I.tok k,⟨t',rfl⟩,q⟩⟩
 refine⟨"str",_,PySem.F.slot_str_getitem.lookup,typeIs_str _ _ _,?_⟩;cases pl with
 |none=>
  cases pu with
  |none=>exact wpAny_getItem_str_slice (l:=none) (u:=none) (st:=none) hs rfl (post_val_or_str (mo _ _ q))
  |int j tj=>exact wpAny_getItem_str_slice (l:=none) (u:=some (j,tj)) (st:=none) hs rfl (post_val_or_str (mo _ _ q))
 |int i ti=>
  cases pu with
  |none=>exact wpAny_getItem_str_slice (l:=some (i,ti)) (u:=none) (st:=none) hs rfl (post_val_or_str (mo _ _ q))
  |int j tj=>exact wpAny_getItem_str_slice (l:=some (i,ti)) (u:=some (j,tj)) (st:=none) hs rfl (post_val_or_str (mo _ _ q))
theorem DH {A:Around}{E:Value->Shared->Prop}{s:Shared}{prog:Program}{w:World}{t sl:Addr}{items:Array Value}{vl vu:Value}{lo hi:Option Int}{Q:Value->Shared->Prop}(ht:IsTup s.heap t items)(hs:s.heap.IsSliceOf sl vl vu .none)(pl:IsPart vl lo)(pu:IsPart vu hi)
  (h0:HT.eI items.size 0 lo=0) (h1:HT.eI items.size items.size hi=items.size) (h:Q (.ref t) s):wpAny (model prog w) A (getItem (.ref t) (.ref sl)) Q E s:=by
 obtain⟨os,KO,xJ,Ow⟩:=id hs
 have hT:s.TypeIs (.ref sl) "slice":=⟨os,KO,xJ⟩
 unfold getItem
 try with_reducible refine wpAny_holding ?_
 first|refine wX (wY ?_)|skip
 refine wX (wpAny_sequenceKey ht.typeIs (by decide) ?_)
 refine wX (wpAny_callSpecial?_slot (name:=Str.ofString "__getitem__") ht.typeIs PyProof.Rows.slot_tuple_getitem (wpAny_call_entry PyProof.Rows.slot_tuple_getitem ht.typeIs entry_tuple_getitem ?_ (args_tuple_getitem _ _)))
 show wpAny _ _ (Builtin.Tuple.tupleItemsOf (.ref t)>>=_) _ _ s
 refine wX (tupleItemsOf_ ht ?_)
 refine wX (wpAny_typeOf hT ?_)
 rw[if_pos (by decide)]
 refine wX (HT.jp hs pl pu ?_)
 have Yz:(((HT.eI items.size 0 lo:Nat):Int) == 0 && (1:Int) == 1 && (HT.eI items.size items.size hi - HT.eI items.size 0 lo) == items.size)=true:=by
  rw[h0,h1];simp
 show wpAny _ _ (if(((HT.eI items.size 0 lo:Nat):Int) == 0 && (1:Int) == 1 && (HT.eI items.size items.size hi - HT.eI items.size 0 lo) == items.size)=true then _ else _) _ _ s
 rw[if_pos Yz]
 refine wX ?_
 unfold Builtin.Tuple.tupleIsExact
 refine wX (wpAny_typeOf ht.typeIs (wY ?_))
 show wpAny _ _ (if((Value.type "tuple") == Value.type "tuple")=true then _ else _) _ _ s
 rw[if_pos (by decide)]
 refine wX (wpAny_rule ?_)
 exact wY ⟨_,rfl,wY h⟩
theorem J6:EK X (λx lo hi H Q=>∃a xs,x=.ref a/\jo X.K H a xs/\HT.eI xs.length 0 lo=0/\HT.eI xs.length xs.length hi=xs.length/\Q (.ref a) H):=by
 intro ae s σ H x v vl vu lo hi sl Q I rx hs pl pu h;obtain⟨a,xs,rfl,hx,h0,h1,q⟩:=h;cases rx
 obtain⟨its,r,ht,hz⟩:=I.tuple hx;have bK:its.toArray.size=xs.length:=by rw[vH];exact r.length.symm
 refine⟨"tuple",_,PyProof.Rows.slot_tuple_getitem.lookup,ht.typeIs,?_⟩;exact DH ht hs pl pu (by rw[bK];exact h0) (by rw[bK];exact h1) ⟨.ref a,H,I,rfl,q⟩
@[simp] def Sy (fa:FE)(fl fh:FO):FE:=λρ=>(fa ρ).bind λx=>(fl ρ).bind λl=>(fh ρ).bind λh=>match x.1 with
 |.lst ds=>some (.lst (tq ds l h),true)
 |.tup ds=>some (.tup (tq ds l h),false)
 |.str z=>if z.length<=sizeLine then some (.str (Txt.slice z l h),false)else none
 |_=>none
theorem AN {ds:List D}{lo hi:Option Int}(h0:HT.eI ds.length 0 lo=0)(h1:HT.eI ds.length ds.length hi=ds.length):tq ds lo hi=ds:=by
 unfold tq;rw[h0,h1];simp
theorem Ga {lo hi:Option Expr}{p2:Pos}{fa:FE}{fl fh:FO}(ha:JE X e fa)(hl:JO X lo fl)(hh:JO X hi fh):JE X (.Subscript e (.Slice lo hi none p2) pos) (Sy fa fl fh):=by
 refine PE.to (Fj (EK.or (EK.or Ja MY) (EK.or J5 J6)) ha hl hh) λσ H Q q=>?_;obtain⟨B,ρ,d,b,sB,r,e,q⟩:=q;obtain⟨x,ex,e⟩:=oX e;obtain⟨l,el,e⟩:=oX e;obtain⟨h,eh,e⟩:=oX e;refine⟨B,ρ,x.1,x.2,sB,r,ex,λv H1 N1 x1 i1 _=>⟨N1,ρ,l,x1.nh,r.mono x1.bn,el,λH2 h2=>⟨N1,ρ,h,x1.nh.trans h2,r.mono x1.bn,eh,λH3 h3=>?_⟩⟩⟩;have s3:aV N1 H3:=x1.nh.trans (h2.trans h3);have q3:=q.into (x1.trans (.grow x1.nh (h2.trans h3)));obtain⟨xd,xb⟩:=x;dsimp only at e i1;cases i1 with
 |@tup a' vs ds hs hv=>
  cases e
  by_cases hw:HT.eI ds.length 0 l=0/\HT.eI ds.length ds.length h=ds.length
  ·rw[AN hw.1 hw.2]at q3;exact .inr (.inr ⟨a',vs,rfl,bu s3 hs,by rw[hv.length];exact hw.1,by rw[hv.length];exact hw.2,q3.one s3 (.tup hs hv)⟩)
  ·refine .inl (.inr ⟨a',vs,rfl,bu s3 hs,by rw[hv.length];exact hw,λp hp=>?_⟩);have x4:=Ext.laid (o:=.tup (sX vs l h)) s3 hp;exact q3 _ _ _ x4 (.tup (jo.of aG) ((wB hv).mono x4.bn)) (by simp)
 |@lst a' vs ds hs hv=>
  cases e
  refine .inl (.inl ⟨a',vs,rfl,s3.seq hs,λp hp=>?_⟩);have x4:=Ext.laid (o:=.lst (sX vs l h)) s3 hp;exact q3 _ _ _ x4 (.lst (iP.of aG) ((wB hv).mono x4.bn)) λ_=>⟨p,_,_,rfl,rfl,hp,aG,(wB hv).mono x4.bn⟩
 |str z=>
  dsimp only at e;split at e
  ·rename_i hz;cases e
   exact .inr (.inl ⟨z,rfl,hz,q3.one s3 (.str _)⟩)
  ·cases e
 |_=>cases e
noncomputable def wF:Value->D->Bool
 |.none,.non=>true
 |.bool a,.bl b=>a == b
 |.int i _,.int j=>decide (i=j)
 |.str i _,.str j=>decide (i=j)
 |_,_=>false
def jM:List Value->List D->Bool
 |[],[]=>true
 |u::us,d::ds=>wF u d && jM us ds
 |_,_=>false
theorem la {K:PySem.W.Frag}{B:Hp}:∀ {u:Value}{d:D},wF u d=true->∃v,ba v u/\Is K B v d
 |.none,.non,_=>⟨.non,rfl,.non⟩
 |.bool a,.bl b,h=>by
  have:a=b:=eq_of_beq h;subst this;exact⟨.bl a,rfl,.bl a⟩
 |.int i t,.int j,h=>by
  have:i=j:=of_decide_eq_true h;subst this;exact⟨.int i,⟨t,rfl⟩,.int i⟩
 |.str i t,.str j,h=>by
  have:i=j:=of_decide_eq_true h;subst this;exact⟨.str i,⟨t,rfl⟩,.str i⟩
theorem jN {K:PySem.W.Frag}:∀ {us:List Value}{ds:List D},jM us ds=true->∃vs,L2.aX vs us/\∀B,IsL K B vs ds
 |[],[],_=>⟨[],.nil,λ_=>.nil⟩
 |u::us,d::ds,h=>by
  rw[jM,vC]at h;obtain⟨vs,r,i⟩:=jN (K:=K) h.2;obtain⟨v,r1,_⟩:=la (K:=K) (B:=λ_=>none) h.1;refine⟨v::vs,.cons r1 r,λB=>?_⟩;obtain⟨v',O5,i'⟩:=la (K:=K) (B:=B) h.1;have:v'=v:=by have z1:=r1.abs;rw[O5.abs]at z1;exact vK z1
  subst this;exact .cons i' (i B)
theorem const_tup {K:PySem.W.Frag}{y:Str}{a:Addr}{od:Option Addr}{its:Array Value}{n:Nat}{pz:Array (Option Value)}{ds:List D}(e:PySem.W.nsIn K mainGlobals y=some (some (.ref a)))
  (l:K.lookup a=some ⟨.type "tuple",od,.seq its n,pz⟩) (h:(decide (its.size<=1000) && jM its.toList ds)=true):∃u v,PySem.W.nsIn K mainGlobals y=some (some u)/\ba v u/\∀B,Is K B v (.tup ds):=by
 rw[vC]at h;obtain⟨vs,r,i⟩:=jN (K:=K) h.2;exact⟨_,.ref a,e,rfl,λB=>.tup (.inr ⟨_,its,n,l,rfl,rfl,Nat.le_of_lt (Nat.lt_of_le_of_lt (of_decide_eq_true h.1) (by decide)),r⟩) (i B)⟩
end
section
variable {X:Cx}{a b o e:Expr}{pos:Pos}{x:Str}{p:Pos}{tg:Expr}
theorem NG {name:Str}{id:String}{dM cM:Pos}{op:D->D->Option (D×Bool)}{fo fe:FE}(slot:Slot "str" name id)(Mf:typeOf (.builtin id)=pure (.type "method_descriptor"))
  (hm:IY X id (λx xs H Q=>∃y,xs=[y]/\rD X.K op x y H Q)) (HQ:∀dx dy r,op dx dy=some r->∃z,dx=.str z) (ho:JE X o fo) (he:JE X e fe)
  (iM:attributeBase o name X.env (eval o X.env)=eval o X.env:=by rfl)
  (B9:((backTo cM (starEach [e] X.env)).all (λx=>!x.1) && (backToKw cM (keywordEach [] X.env)).all (λx=>x.1.isSome)
   && decide ([e].length+([]:List Keyword).length+(if([]:List Keyword).isEmpty then 0 else 1)<30))=true:=by rfl)
  (iN:(dM.endLine == cM.line)=true:=by rfl) (hs:starEach [e] X.env=[(false,eval e X.env)]:=by rfl):
  JE X (.Call (.Attribute o name dM) [e] [] cM) (f2 op fo fe):=by
 refine PE.to (Fm PySem.F.plainAttrs_str slot Mf hm ho (iT he kx hs) iM B9 iN hs rfl) λσ H Q q=>?_;obtain⟨B,ρ,d,bb,sB,r,ee,q⟩:=q;obtain⟨x1,ex,ee⟩:=oX ee;obtain⟨y1,ey,ee⟩:=oX ee;obtain⟨z,hz⟩:=HQ _ _ _ ee;refine⟨B,ρ,x1.1,x1.2,sB,r,ex,λv H1 N1 UC i1 _=>?_⟩;rw[hz]at i1;cases i1
 refine⟨show "str" = "str" from rfl,N1,ρ,y1.1,y1.2,UC.nh,r.mono UC.bn,ey,λv2 H2 N2 R6 i2 _=>⟨v2,rfl,N2,.str z,y1.1,d,bb,R6.nh,.str z,i2,by rw[←hz];exact ee,q.into (UC.trans R6)⟩⟩
@[simp] noncomputable def NH:D->Option Str
 |.str z=>some z
 |_=>none
def ga:List D->Option (List Str)
 |[]=>some []
 |d::ds=>(NH d).bind λz=>(ga ds).map (z :: ·)
@[simp] theorem Pb:ga []=some []:=rfl
@[simp] theorem AO (d:D)(ds:List D):ga (d::ds)=(NH d).bind λz=>(ga ds).map (z :: ·):=rfl
@[simp] theorem Pc (zs:List Str):ga (zs.map D.str)=some zs:=by
 induction zs with
 |nil=>rfl
 |cons z zs ih=>simp[ih]
theorem jx {K:PySem.W.Frag}{B:Hp}:∀ {vs:List V}{ds:List D}{zs:List Str}{its:List Value},L2.aX vs its->IsL K B vs ds->ga ds=some zs->StrsAre its zs
 |_,_,_,_,.nil,.nil,e=>by cases e;exact .nil
 |_,_,_,_,.cons r rr,.cons i ii,e=>by
  rw[AO]at e;obtain⟨z,e1,e⟩:=oX e;obtain⟨zs,e2,e⟩:=oY e;subst e;cases i<;>simp only[NH]at e1<;>try (cases e1;done)
  cases e1
  obtain⟨t,rfl⟩:=r;exact .cons _ t (jx rr ii e2)
@[simp] def oJ:D->D->Option (D×Bool)
 |.str sep,.lst ds=>(ga ds).bind λzs=>if(zs.map (·.length)).sum+zs.length*sep.length<=16777216 then some (.str (Txt.join sep zs),false)else none
 |.str sep,.tup ds=>(ga ds).bind λzs=>if(zs.map (·.length)).sum+zs.length*sep.length<=16777216 then some (.str (Txt.join sep zs),false)else none
 |_,_=>none
theorem NI:IY X "str.join" (λx xs H Q=>∃y,xs=[y]/\rD X.K oJ x y H Q):=by
 intro ae s σ H x xs v us Q I rx rs h;obtain⟨y,rfl,B,dx,dy,d,bb,sB,ix,iy,ee,q⟩:=h;obtain⟨u1,rfl,r1⟩:=gZ rs;cases ix<;>(try (simp[oJ]at ee;done))
 obtain⟨t,rfl⟩:=rx;cases iy<;>(try (simp[oJ]at ee;done))
 ·rename_i h hl;simp only[oJ]at ee;obtain⟨zs,ez,ee⟩:=oX ee;split at ee
  ·rename_i hok;cases ee
   cases r1
   obtain⟨its,rv,p1,z1⟩:=I.tuple (bu sB h);exact join_tuple p1 (by simpa using jx rv hl ez) hok λt' k=>⟨.str _,H,I.tok k,⟨t',rfl⟩,q.one sB (.str _)⟩
  ·cases ee
 ·rename_i h hl;simp only[oJ]at ee;obtain⟨zs,ez,ee⟩:=oX ee;split at ee
  ·rename_i hok;cases ee
   cases r1
   obtain⟨its,rv,p1,z1⟩:=I.list (sB.seq h);exact join_list p1.isList (by simpa using jx rv hl ez) hok λt' k=>⟨.str _,H,I.tok k,⟨t',rfl⟩,q.one sB (.str _)⟩
  ·cases ee
theorem Gb (dx dy:D)(r:D×Bool)(h:oJ dx dy=some r):∃z,dx=.str z:=by
 cases dx<;>first|exact⟨_,rfl⟩|(cases dy<;>simp[oJ]at h)
noncomputable def gb:List Nat->List D->Env->Option Env
 |[],[],ρ=>some ρ
 |i::is,d::ds,ρ=>gb is ds (ρ.set i (some (d,false)))
 |_,_,_=>none
@[simp] theorem tY (ρ:Env):gb [] [] ρ=some ρ:=by rw[gb]
@[simp] theorem lR (i:Nat)(is:List Nat)(d:D)(ds:List D)(ρ:Env):gb (i::is) (d::ds) ρ=gb is ds (ρ.set i (some (d,false))):=by rw[gb]
@[simp] theorem QJ (d:D)(ds:List D)(ρ:Env):gb [] (d::ds) ρ=none:=by simp only[gb]
@[simp] theorem QK (i:Nat)(is:List Nat)(ρ:Env):gb (i::is) [] ρ=none:=by simp only[gb]
@[simp] def EN (is:List Nat):FG:=λd ρ=>match d with|.tup ds=>gb is ds ρ|_=>none
def lS:List Nat->Lg
 |[]=>Qa
 |i::is=>Lh (jX i) (lS is)
theorem Gc:aV (dU N (own σ ρ)) (dU N (own (σ.set i (some v)) (ρ.set i (some (d,false))))):=eW λa u e q=>⟨e,λz=>q (by
 rcases ww z with⟨_,d',p⟩|⟨j,_,d',q1,q2⟩
 ·cases p
 ·exact⟨j,d',q1,q2⟩)⟩
theorem lb {K:PySem.W.Frag}:∀ {is:List Nat}{vs:List V}{ds:List D}{B0 H0 N H:Hp}{σ:St}{ρ ρ':Env}{Q:St->Hp->Prop},eJ K B0 H0 N H σ ρ->IsL K (dU N (own σ ρ)) vs ds->gb is ds ρ=some ρ'->(∀σ',eJ K B0 H0 N H σ' ρ'->Q σ' H)->lS is vs σ H Q
 |[],_,_,_,_,_,_,_,_,_,_,s,.nil,e,k=>by
  rw[tY]at e;cases e;exact⟨rfl,k _ s⟩
 |[],_,_,_,_,_,_,_,_,_,_,_,.cons _ _,e,_=>by simp at e
 |_::_,_,_,_,_,_,_,_,_,_,_,_,.nil,e,_=>by simp at e
 |i::is,_,_,_,_,_,_,_,_,_,_,s,.cons h hs,e,k=>by
  rw[lR]at e;exact⟨_,_,rfl,lb (s.bind h) (hs.mono Gc) e k⟩
theorem lf:∀ {is:List Nat}{ds:List D}{ρ ρ':Env},gb is ds ρ=some ρ'->ds.length=is.length
 |[],[],_,_,_=>rfl
 |_::_,_::_,_,_,e=>by rw[lR]at e;simp[lf e]
 |[],_::_,_,_,e=>by simp at e
 |_::_,[],_,_,e=>by simp at e
theorem LF {K:PySem.W.Frag}{is:List Nat}:Jk K (EN is) (MF K is.length (lS is)):=by
 intro B0 H0 N H σ ρ ρ' v d Q s h e k;cases h with
 |@tup a vs ds ht hl=>
  have e':gb is ds ρ=some ρ':=e;exact⟨a,vs,rfl,bu (bU.trans s.ext.nh) ht,by rw[hl.length];exact lf e',lb s hl e' λσ' s'=>k σ' H ⟨N,s'⟩⟩
 |_=>cases e
theorem tZ {K:PySem.W.Frag}{n:Nat}{B H:Hp}{ρ0:Env}{Q:St->Hp->Prop}(cl:∀i,i<n->ρ0[i]? = some none):∀ {is:List Nat}{vs:List V}{ds:List D}{σ:St}{ρ ρ1:Env},(∀i∈is,i<n)->fM K B σ ρ->IsL K B vs ds->gb is ds ρ=some ρ1->ρ.length=σ.length->ρ.length=ρ0.length ->
  (∀σ1,fM K B σ1 ρ1->(∀B',fM K B' σ ρ0->fM K B' σ1 ρ0)->ρ0.length=σ1.length->Q σ1 H)->lS is vs σ H Q
 |[],_,_,_,_,_,_,rp,.nil,e,l1,l2,k=>by
  rw[tY]at e;cases e;exact⟨rfl,k _ rp (λ_ z=>z) (by omega)⟩
 |[],_,_,_,_,_,_,_,.cons _ _,e,_,_,_=>by simp at e
 |_::_,_,_,_,_,_,_,_,.nil,e,_,_,_=>by simp at e
 |i::is,_,_,σ,ρ,_,hn,rp,.cons (v:=v) h hs,e,l1,l2,k=>by
  rw[lR]at e;have hi:=hn i mX;have E8:i<σ.length:=by
   have:=(vV (cl i hi)).1;omega
  refine⟨_,_,rfl,tZ cl (λj hj=>hn j (mZ _ hj)) ⟨rp.tb,λj d b q=>?_⟩ hs e (by simpa using l1) (by simpa using l2) λσ1 r1 r2 l=>k σ1 r1 (λB' z=>r2 B' ⟨z.tb,λj d b q=>?_⟩) l⟩
  ·rcases cn q with⟨rfl,pp⟩|⟨ne,pp⟩
   ·cases pp
    exact⟨v,by simp[E8],h⟩
   ·obtain⟨w,h1,h2⟩:=rp.at' j d b pp;exact⟨w,by rw[vB ne];exact h1,h2⟩
  ·obtain⟨w,h1,h2⟩:=z.at' j d b q;have ne:i≠j:=λz=>by subst z;rw[cl i hi]at q;cases q
   exact⟨w,by rw[vB ne];exact h1,h2⟩
theorem LG {K:PySem.W.Frag}{n:Nat}{is:List Nat}(hn:∀i∈is,i<n):Nl K n (EN is) (MF K is.length (lS is)):=by
 intro B H σ ρ ρ1 v d Q cl rep s h e hl k;cases h with
 |@tup a vs ds ht hv=>
  have e':gb is ds ρ=some ρ1:=e;exact⟨a,vs,rfl,bu s ht,by rw[hv.length];exact lf e',tZ cl hn rep hv e' hl rfl k⟩
 |_=>cases e
end
section
variable {prog:Program}{w:World}{A:Around}{E:Value->Shared->Prop}{s:Shared}
theorem AQ (st:s.heap.IsTupleIter it l i)(ht:s.heap.IsTuple l items)(hv:items[i]? = some v)
  (k:∀h',h'.IsTupleIter it l (i+1)->Heap.SameBut it s.heap h'->Q v { s with heap:=h' }):wpAny (model prog w) A (Builtin.SmallTypes.nextOf (.ref it)) Q E s:=by
 obtain⟨o1,g1,c1,d1⟩:=id st;obtain⟨o2,g2,_,n2,d2⟩:=ht;unfold Builtin.SmallTypes.nextOf;refine wX (wpAny_callSpecial?_slot (name:=Str.ofString "__next__") st.typeIs PySem.F.slot_tuple_iterator_next (wpAny_call_entry PySem.F.slot_tuple_iterator_next st.typeIs PySem.F.entry_tuple_iterator_next ?_ (PySem.F.args_tuple_iterator_next_1 _)));show wpAny _ _ (field (.ref it) 0>>=_) _ _ _;refine wX (wpAny_field g1 d1 (x:=.ref l) rfl ?_);show wpAny _ _ (if(Value.ref l == Value.none)=true then _ else _) _ _ _;rw[if_neg (λz=>uX z:¬((Value.ref l == Value.none)=true))];show wpAny _ _ (field (.ref it) 1>>=_) _ _ _;refine wX (wpAny_field g1 d1 (x:=.int i 0) rfl ?_);show wpAny _ _ (seqItems? (.ref l)>>=_) _ _ _;refine wX (wpAny_seqItems g2 d2 ?_);simp only[hv,Int.toNat_natCast];refine wX (wpAny_setField g1 d1 (by simp) (wY ⟨v,rfl,wY (k _ ?_ (vW ..))⟩));exact⟨_,Heap.get?_update_self _ g1 (Obj.isFreed_of_fields (Obj.data_mapFields d1 _)),(Obj.cls_mapFields ..).trans c1,by rw[Obj.data_mapFields d1];simp[rawInt]⟩
theorem DI (hA:A.handled=none)(st:s.heap.IsTupleIter it l i)(ht:s.heap.IsTuple l items)(hv:items[i]? = none)
  (k:∀h' x,Heap.ExtBut it s.heap h'->(∃o,h'.get? x=some o/\o.cls=.type "StopIteration")->E (.ref x) { s with heap:=h' }):wpAny (model prog w) A (Builtin.SmallTypes.nextOf (.ref it)) Q E s:=by
 obtain⟨o1,g1,c1,d1⟩:=id st;obtain⟨o2,g2,_,n2,d2⟩:=ht;unfold Builtin.SmallTypes.nextOf;refine wX (wpAny_callSpecial?_slot (name:=Str.ofString "__next__") st.typeIs PySem.F.slot_tuple_iterator_next (wpAny_call_entry PySem.F.slot_tuple_iterator_next st.typeIs PySem.F.entry_tuple_iterator_next ?_ (PySem.F.args_tuple_iterator_next_1 _)));show wpAny _ _ (field (.ref it) 0>>=_) _ _ _;refine wX (wpAny_field g1 d1 (x:=.ref l) rfl ?_);show wpAny _ _ (if(Value.ref l == Value.none)=true then _ else _) _ _ _;rw[if_neg (λz=>uX z:¬((Value.ref l == Value.none)=true))];show wpAny _ _ (field (.ref it) 1>>=_) _ _ _;refine wX (wpAny_field g1 d1 (x:=.int i 0) rfl ?_);show wpAny _ _ (seqItems? (.ref l)>>=_) _ _ _;refine wX (wpAny_seqItems g2 d2 ?_);simp only[hv,Int.toNat_natCast];refine wX (wpAny_rule (wX (wpAny_setField g1 d1 (by simp) ?_)));show wpAny _ _ (newExc (.type "StopIteration") []>>=_) _ _ _;refine wX ?_;simp only[newTuple,newExc];refine wX (wpAny_newObj_type ?_ (by size_fits));refine wX (m:=firstArgMember _ _) (wpAny_of_eq (a:=Value.none) (by first|(simp only[firstArgMember];rfl)|rfl) ?_);refine wpAny_newObj_type ?_ (by size_fits);simp only[raiseNew];refine wX (wpAny_handled ?_);first|rw[hA]|rw[show A.in1.handled=none from hA]
 exact wX (wY (wpAny_throw (k _ _ (((vW ..).extBut.push _).push _) ⟨_,vY _ rfl,rfl⟩)))
end
def BY:Bool->Heap->Addr->Addr->Nat->Prop
 |true,h,it,a,i=>h.IsListIter it a i
 |false,h,it,a,i=>h.IsTupleIter it a i
def Al:Bool->Heap->Addr->Array Value->Prop
 |true,h,a,items=>h.IsList a items
 |false,h,a,items=>h.IsTuple a items
def Am (k:Bool)(K:PySem.W.Frag)(H:Hp)(a:Addr)(xs:List V):Prop:=match k with|true=>iP K H a xs|false=>jo K H a xs
theorem BY.ob (st:BY k h it a i):∃o,h.get? it=some o/\∀v,o.data≠.cell v:=by
 cases k<;>(obtain⟨o,g,_,d⟩:=st;exact⟨o,g,λv z=>by rw[d]at z;cases z⟩)
theorem BY.upon (st:BY k h it a i)(g:∀o,h.get? it=some o->h'.get? it=some o):BY k h' it a i:=by
 cases k<;>(obtain⟨o,e,r⟩:=st;exact⟨o,g o e,r⟩)
theorem Al.upon (st:Al k h a items)(g:∀o,h.get? a=some o->h'.get? a=some o):Al k h' a items:=by
 cases k<;>(obtain⟨o,e,r⟩:=st;exact⟨o,g o e,r⟩)
theorem Al.lt (st:Al k h a items):a<h.objs.size:=by
 cases k<;>(obtain⟨o,e,r⟩:=st;exact vX e)
theorem Am.same {k:Bool}{K:PySem.W.Frag}{H H':Hp}{a:Addr}{xs:List V}(h:Am k K H a xs)(e:aV H H'):Am k K H' a xs:=by
 cases k
 ·exact bu e h
 ·exact e.seq h
theorem Am.vals (I:Inv X ae σ H s)(h:Am k X.K H a xs):∃its:List Value,aX xs its/\Al k s.heap a its.toArray/\xs.length<=sizeLine:=by
 cases k
 ·exact I.tuple h
 ·obtain⟨its,r,p,z⟩:=I.list h;exact⟨its,r,p.isList,z⟩
theorem Am.inj (I:Inv X ae σ H s)(h:Am k X.K H a xs)(h':Am k X.K H a ys):xs=ys:=by
 cases k
 ·exact I.tuple_inj h h'
 ·exact I.list_inj h h'
section
variable {prog:Program}{w:World}{A:Around}{E:Value->Shared->Prop}{s:Shared}
theorem DJ (st:BY k s.heap it l i)(ht:Al k s.heap l items)(hv:items[i]? = some v)
  (q:∀h',BY k h' it l (i+1)->Heap.SameBut it s.heap h'->Q v { s with heap:=h' }):wpAny (model prog w) A (Builtin.SmallTypes.nextOf (.ref it)) Q E s:=by
 cases k
 ·exact AQ st ht hv q
 ·exact wpAny_nextOf_list_item st ht hv q
theorem y0 (hA:A.handled=none)(st:BY k s.heap it l i)(ht:Al k s.heap l items)(hv:items[i]? = none)
  (q:∀h' x,Heap.ExtBut it s.heap h'->(∃o,h'.get? x=some o/\o.cls=.type "StopIteration")->E (.ref x) { s with heap:=h' }):wpAny (model prog w) A (Builtin.SmallTypes.nextOf (.ref it)) Q E s:=by
 cases k
 ·exact DI hA st ht hv q
 ·exact wpAny_nextOf_list_end hA st ht hv q
end
noncomputable def NJ (k:Bool)(l:Addr):Obj:={ cls:=.type (if k=true then "list_iterator" else "tuple_iterator"),data:=.fields #[.ref l,.int 0 0] }
theorem wG (ht:Al k s.heap l items)
  (q:Q (.ref s.heap.objs.size) { s with heap:=s.heap.push (NJ k l) }):wpAny (model prog w) A (pyIter (.ref l)) Q E s:=by
 cases k
 ·exact wpAny_pyIter_tuple ht q
 ·exact wpAny_pyIter_list ht q
theorem Al.push (st:Al k h a items)(o:Obj):Al k (h.push o) a items:=st.upon λ_ e=>vZ _ e
theorem pH {X:Cx}{ae:List (Addr×Obj)}{σ:St}{H:Hp}{s:Shared}{h':Heap}{t':Nat}{ch:List Addr}(I:Inv X ae σ H s)(f:∀b∈ch,nO X ae H b)(k:∀b o,b∉ch->s.heap.get? b=some o->h'.get? b=some o):Inv X ae σ H { s with heap:=h',toks:=t' }:=by
 have Mc:∀b u,H b=some u->b∉ch:=λb u e z=>by rw[(f b z).1]at e;cases e
 refine I.step (g':=s.gens) (d':=s.drawn) (ch:=ch) (λb hb=>?_) (λb o _ _ hc e _=>k b o hc e) (λb o _ _ hc e _=>⟨o.slots,k b o hc e⟩) (λ_ _ _ _ n=>n)
  (λb o hc e=>⟨o,k b o hc e⟩) (λ_ _ e=>e) (λ_ _ _ e=>e) (λ_ _ e=>e) (λm hm=>?_) (λb u e=>?_) I.bare
 ·obtain⟨_,f1,_,f3,f4,f5⟩:=f b hb;exact⟨f3,f1,f4,f5⟩
 ·obtain⟨o,es,ep,ho,r⟩:=hm;exact⟨o,es,ep,k _ o (λz=>(f _ z).2.1 rfl) ho,r⟩
 ·refine(I.hok b u e).stay (λc v hc q=>k c v ?_ q) (λ_ q=>q) (λ_ _ q=>q) λ_ _ _ q=>q;rcases hc with z|z
  ·rw[z];exact Mc b u e
  ·exact Mc c _ z
theorem LH {X:Cx}{ae:List (Addr×Obj)}{σ:St}{H:Hp}{s:Shared}{h':Heap}{t':Nat}{ch:List Addr}{a:Addr}{ob:HO}(I:Inv X ae σ H s)(f:∀b∈ch,nO X ae H b)(k:∀b o,b∉ch->s.heap.get? b=some o->h'.get? b=some o)(ha:s.heap.objs.size<=a)
  (new:bR X.prog X.w (upd H a ob) h' a ob):Inv X ae σ (upd H a ob) { s with heap:=h',toks:=t' }:=by
 have hn:H a=none:=I.hok.fresh ha;have Mc:∀b u,H b=some u->b∉ch:=λb u e z=>by rw[(f b z).1]at e;cases e
 have na:∀b o,s.heap.get? b=some o->b≠a:=λb o e=>vS (vQ (vX e) ha);refine I.step (g':=s.gens) (d':=s.drawn) (ch:=ch) (λb hb=>?_) (λb o _ _ hc e _=>k b o hc e) (λb o _ _ hc e _=>⟨o.slots,k b o hc e⟩) (λb o _ e n=>by rw[aK (na b o e)];exact n)
  (λb o hc e=>⟨o,k b o hc e⟩) (λb xs e=>by rw[aK (aY e hn)];exact e) (λb o u e=>by rw[aK (aY e hn)];exact e) (λb ps e=>by rw[aK (aY e hn)];exact e) (λm hm=>?_) (λb u e=>?_) I.bare
 ·obtain⟨_,f1,_,f3,f4,f5⟩:=f b hb;exact⟨f3,f1,f4,f5⟩
 ·obtain⟨o,es,ep,ho,r⟩:=hm;exact⟨o,es,ep,k _ o (λz=>(f _ z).2.1 rfl) ho,r⟩
 ·by_cases hb:b=a
  ·subst hb;rw[aG]at e;cases e;exact new
  ·rw[aK hb]at e;refine(I.hok b u e).stay (λc v hc q=>k c v ?_ q) (λc q=>?_) (λc xs q=>?_) λc o xs q=>?_
   ·rcases hc with z|z
    ·rw[z];exact Mc b u e
    ·exact Mc c _ z
   ·rw[aK (aY q hn)];exact q
   ·rw[aK (aY q hn)];exact q
   ·rw[aK (aY q hn)];exact q
section
variable {X:Cx}{a b e:Expr}{pos:Pos}{p:Pos}
noncomputable def TF (xs ys:List D):List D:=List.zipWith (λx y=>.tup [x,y]) xs ys
@[simp] def TH (fa fb:FE):FA:=λρ=>(fa ρ).bind λx=>(fb ρ).bind λy=>(gH x.1).bind λxs=>(gH y.1).map λys=>TF xs ys
theorem LI {K:PySem.W.Frag}{B:Hp}{v:V}{d:D}{ds:List D}(h:Is K B v d)(e:gH d=some ds):∃k a vs,v=.ref a/\Am k K B a vs/\IsL K B vs ds:=by
 cases h with
 |tup ht hl=>cases e;exact⟨false,_,_,rfl,ht,hl⟩
 |lst ht hl=>cases e;exact⟨true,_,_,rfl,ht,hl⟩
 |_=>cases e
end
noncomputable def unown1 (ρ:Env)(i:Nat):Env:=match ρ[i]? with
 |some (some (d,true))=>ρ.set i (some (d,false))
 |_=>ρ
theorem eJ.unown1 {K:PySem.W.Frag}{B0 H0 N H:Hp}{σ:St}{ρ:Env}(s:eJ K B0 H0 N H σ ρ)(i:Nat):eJ K B0 H0 N H σ (unown1 ρ i):=by
 unfold DL.unown1;split
 ·rename_i d hd;obtain⟨a,ob,h1,h2,h3,h4⟩:=s.ow i d hd;have get:∀ {j:Nat}{e:D}{b:Bool},(ρ.set i (some (d,false)))[j]? = some (some (e,b))->(i=j/\e=d/\b=false)∨(i≠j/\ρ[j]? = some (some (e,b))):=λq=>by
   rcases cn q with⟨z,p⟩|⟨z,p⟩
   ·cases p;exact .inl ⟨z,rfl,rfl⟩
   ·exact .inr ⟨z,p⟩
  have o:∀c,own σ (ρ.set i (some (d,false))) c->own σ ρ c/\c≠a:=λc ⟨j,e,q1,q2⟩=>by
   rcases get q1 with⟨_,_,z⟩|⟨ne,q⟩
   ·cases z
   ·exact⟨⟨j,e,q,q2⟩,λz=>by subst z;exact ne (s.inj i j _ _ _ hd q h1 q2)⟩
  have c:aV (dU N (own σ ρ)) (dU N (own σ (ρ.set i (some (d,false))))):=eW λb u e q=>⟨e,λz=>q (o b z).1⟩;have na:¬own σ (ρ.set i (some (d,false))) a:=λz=>(o a z).2 rfl;refine⟨s.bh,s.tb,s.ext,by rw[List.length_set];exact s.len,λj e q=>?_,λj e q=>?_,λj k b e f q q' z1 z2=>?_⟩
  ·rcases get q with⟨rfl,rfl,_⟩|⟨_,q⟩
   ·exact⟨_,h1,(h4.mono c).is (by rw[cV na];exact h2)⟩
   ·obtain⟨v,k1,k2⟩:=s.sh j e q;exact⟨v,k1,k2.mono c⟩
  ·rcases get q with⟨_,_,z⟩|⟨_,q⟩
   ·cases z
   ·obtain⟨a',o',k1,k2,k3,k4⟩:=s.ow j e q;exact⟨a',o',k1,k2,k3,k4.mono c⟩
  ·rcases get q with⟨_,_,z⟩|⟨_,q⟩
   ·cases z
   ·rcases get q' with⟨_,_,z⟩|⟨_,q'⟩
    ·cases z
    ·exact s.inj j k b e f q q' z1 z2
 ·exact s
@[simp] noncomputable def TJ (is:List Nat)(g:FS):FS:=λρ=>g (is.foldl unown1 ρ)
theorem eJ.unowns {K:PySem.W.Frag}{B0 H0 N H:Hp}{σ:St}:∀(is:List Nat){ρ:Env},eJ K B0 H0 N H σ ρ->eJ K B0 H0 N H σ (is.foldl DL.unown1 ρ)
 |[],_,s=>s
 |i::is,_,s=>eJ.unowns is (s.unown1 i)
theorem NK {K:PySem.W.Frag}{is:List Nat}{g:FS}{E:Ends}{σ:St}{H:Hp}(q:nU K (TJ is g) E σ H):nU K g E σ H:=by
 obtain⟨B0,H0,ρ,r,⟨N,s⟩,e,p⟩:=q;exact⟨B0,H0,_,r,⟨N,s.unowns is⟩,e,p⟩
theorem QL {X:Cx}{st:Stmt}{g:FS}(is:List Nat)(h:JS X st g):JS X st (TJ is g):=PS.to h λ_ _ _ q=>NK q
@[simp] noncomputable def LJ:FS:=λρ=>some (.ct ρ)
@[simp] noncomputable def TK:FS:=λρ=>some (.bk ρ)
@[simp] noncomputable def TL:FS:=λ_=>none
section
variable {X:Cx}{pos:Pos}
theorem J7:JS X (.Continue pos) LJ:=PS.to xP λE σ H q=>by
 obtain⟨B0,H0,ρ,r,s,e,p⟩:=q;cases e
 exact p σ H s
end
inductive CRows (K:PySem.W.Frag)(P:Params):List DictEntry->List (Str×D)->Prop where
 |nil:CRows K P [] []
 |tup {x:Str}{t:Tok}{h:Int}{a:Addr}{its:Array Value}{n:Nat}{pz:Array (Option Value)}{ds:List D}{r:List DictEntry}{aI:List (Str×D)}(hh:h=PyData.keyHash P x)
   (l:K.lookup a=some ⟨.type "tuple",none,.seq its n,pz⟩) (f:(decide (its.size<=1000) && jM its.toList ds)=true) (tl:CRows K P r aI):CRows K P (⟨h,.str x t,.ref a⟩::r) ((x,.tup ds)::aI)
 |flat {x:Str}{t:Tok}{h:Int}{u:Value}{d:D}{r:List DictEntry}{aI:List (Str×D)}(hh:h=PyData.keyHash P x) (f:wF u d=true) (tl:CRows K P r aI):CRows K P (⟨h,.str x t,u⟩::r) ((x,d)::aI)
theorem CRows.lit {K:PySem.W.Frag}{P:Params}:∀ {es:List DictEntry}{aI:List (Str×D)},CRows K P es aI->PySem.W.KeysLit P es
 |_,_,.nil=>trivial
 |_,_,.tup hh _ _ tl=>⟨⟨_,_,rfl,hh⟩,tl.lit⟩
 |_,_,.flat hh _ tl=>⟨⟨_,_,rfl,hh⟩,tl.lit⟩
theorem CRows.find {K:PySem.W.Frag}{P:Params}(y:Str):∀ {es:List DictEntry}{aI:List (Str×D)},CRows K P es aI->match aI.lookup y with
  |none=>es.find? (λe=>Value.isStrOf y e.key)=none
  |some d=>∃e v,es.find? (λe=>Value.isStrOf y e.key)=some e/\ba v e.val/\∀B,Is K B v d
 |_,_,.nil=>rfl
 |_,_,.tup (x:=x) (t:=t) (a:=a) (ds:=ds) hh l f tl=>by
  by_cases e:y=x
  ·subst e;rw[List.lookup_cons_self];rw[vC]at f;obtain⟨vs,r,i⟩:=jN (K:=K) f.2;exact⟨_,.ref a,List.find?_cons_of_pos (by simp[Value.isStrOf]),rfl,λB=>.tup (.inr ⟨_,_,_,l,rfl,rfl,Nat.le_of_lt (Nat.lt_of_le_of_lt (of_decide_eq_true f.1) (by decide)),r⟩) (i B)⟩
  ·have ih:=tl.find y;rw[List.lookup_cons,beq_eq_false_iff_ne.mpr e];have nf:Value.isStrOf y (Value.str x t)=false:=by
    rw[Bool.eq_false_iff];intro z;obtain⟨t',q⟩:=Value.isStrOf_shape z;injection q with q1;exact e q1.symm
   simp only[List.find?_cons,nf];exact ih
 |_,_,.flat (x:=x) (t:=t) (u:=u) (d:=d) hh f tl=>by
  by_cases e:y=x
  ·subst e;rw[List.lookup_cons_self];obtain⟨v,r1,_⟩:=la (K:=K) (B:=λ_=>none) f;refine⟨_,v,List.find?_cons_of_pos (by simp[Value.isStrOf]),r1,λB=>?_⟩;obtain⟨v',O5,i'⟩:=la (K:=K) (B:=B) f;have:v'=v:=by have z1:=r1.abs;rw[O5.abs]at z1;exact vK z1
   subst this;exact i'
  ·have ih:=tl.find y;rw[List.lookup_cons,beq_eq_false_iff_ne.mpr e];have nf:Value.isStrOf y (Value.str x t)=false:=by
    rw[Bool.eq_false_iff];intro z;obtain⟨t',q⟩:=Value.isStrOf_shape z;injection q with q1;exact e q1.symm
   simp only[List.find?_cons,nf];exact ih
def ua (K:PySem.W.Frag)(P:Params)(a:Addr)(aI:List (Str×D)):Prop:=∃es n,K.lookup a=some ⟨.type "dict",none,.dict es n,#[]⟩/\CRows K P es.toList aI/\(a == sysModules)=false
theorem const_dict {K:PySem.W.Frag}{P:Params}{y:Str}{a:Addr}{es:Array DictEntry}{n:Nat}{aI:List (Str×D)}(e:PySem.W.nsIn K mainGlobals y=some (some (.ref a)))(l:K.lookup a=some ⟨.type "dict",none,.dict es n,#[]⟩)(r:CRows K P es.toList aI)(s:(a == sysModules)=false):
  ∃a,PySem.W.nsIn K mainGlobals y=some (some (.ref a))/\ua K P a aI:=⟨a,e,es,n,l,r,s⟩
section
variable {X:Cx}{a b e:Expr}{pos:Pos}{x:Str}{p:Pos}
theorem ua.map {ae:List (Addr×Obj)}{σ:St}{H:Hp}{s:Shared}{d:Addr}{aI:List (Str×D)}(I:Inv X ae σ H s)(h:ua X.K X.w.params d aI):∃f:Str->Option Value,s.heap.MapOf (strKind X.prog X.w) d f/\(d == sysModules)=false /\
  ∀y,match aI.lookup y with|none=>f y=none|some dd=>∃u v,f y=some u/\ba v u/\∀B,Is X.K B v dd:=by
 obtain⟨es,n,l,r,sm⟩:=h;refine⟨_,PySem.W.mapOf_K I.kIn l r.lit,sm,λy=>?_⟩;have:=r.find y;have ff:findBy Value.isStrOf es y=(es.toList.find? λe=>Value.isStrOf y e.key).map (·.val):=by
  unfold findBy;obtain⟨es⟩:=es;rw[List.find?_toArray]
 cases hl:aI.lookup y with
 |none=>rw[hl]at this;dsimp only at this ⊢;rw[ff,this];rfl
 |some dd=>
  rw[hl]at this;obtain⟨en,v,e1,e2,e3⟩:=this;exact⟨en.val,v,by rw[ff,e1];rfl,e2,e3⟩
@[simp] noncomputable def X0 (aI:List (Str×D)):D->Option (D×Bool)
 |.str y=>(aI.lookup y).map λd=>(d,false)
 |_=>none
@[simp] noncomputable def ZZ (aI:List (Str×D)):D->Option (D×Bool)
 |.str y=>some (.bl (aI.lookup y).isSome,false)
 |_=>none
@[simp] noncomputable def TM (aI:List (Str×D)):D->Option (D×Bool)
 |.str y=>some (.bl (!(aI.lookup y).isSome),false)
 |_=>none
@[simp] noncomputable def iU:List D->Option (D×Bool)
 |[.lst ds]=>some (.lst ds,true)
 |[.tup ds]=>some (.lst ds,true)
 |_=>none
@[simp] noncomputable def gJ:List D->Option (D×Bool)
 |[.lst ds]=>some (.tup ds,false)
 |[.tup ds]=>some (.tup ds,false)
 |_=>none
theorem Gd:bT X (.type "list") (A6 X.K iU):=by
 refine bT.to wq λxs H Q q=>?_;obtain⟨B,ds,d,bb,sB,i,ee,q⟩:=q;cases i with
 |nil=>simp[iU]at ee
 |cons i1 i2=>
  cases i2 with
  |cons _ _=>cases i1<;>simp[iU]at ee
  |nil=>
   cases i1<;>try (simp[iU]at ee;done)
   ·rename_i l0 vs es h hl;simp only[iU]at ee;cases ee
    refine⟨_,_,rfl,.inr (bu sB h),λl hp=>?_⟩;have xt:=Ext.laid (o:=.lst vs) sB hp;exact q _ _ _ xt (.lst (iP.of aG) (hl.mono xt.bn)) λ_=>⟨_,_,_,rfl,rfl,hp,aG,hl.mono xt.bn⟩
   ·rename_i l0 vs es h hl;simp only[iU]at ee;cases ee
    refine⟨_,_,rfl,.inl (sB.seq h),λl hp=>?_⟩;have xt:=Ext.laid (o:=.lst vs) sB hp;exact q _ _ _ xt (.lst (iP.of aG) (hl.mono xt.bn)) λ_=>⟨_,_,_,rfl,rfl,hp,aG,hl.mono xt.bn⟩
theorem BZ:bT X (.type "tuple") (A6 X.K gJ):=by
 refine bT.to sZ λxs H Q q=>?_;obtain⟨B,ds,d,bb,sB,i,ee,q⟩:=q;cases i with
 |nil=>simp[gJ]at ee
 |cons i1 i2=>
  cases i2 with
  |cons _ _=>cases i1<;>simp[gJ]at ee
  |nil=>
   cases i1<;>try (simp[gJ]at ee;done)
   ·rename_i l0 vs es h hl;simp only[gJ]at ee;cases ee
    exact⟨_,_,rfl,.inr ⟨bu sB h,q.one sB (.tup h hl)⟩⟩
   ·rename_i l0 vs es h hl;simp only[gJ]at ee;cases ee
    refine⟨_,_,rfl,.inl ⟨sB.seq h,λl hp=>?_⟩⟩;have xt:=Ext.laid (o:=.tup vs) sB hp;exact q _ _ _ xt (.tup (jo.of aG) (hl.mono xt.bn)) (by simp)
end
section
variable {X:Cx}{a b e:Expr}{pos:Pos}{x:Str}{p:Pos}
def Ge (K:PySem.W.Frag)(n:Nat)(t:Lg):TG:=λv σ H Q=>∃k a xs,v=.ref a/\Am k K H a xs/\xs.length=n/\t xs σ H Q
theorem NL (hc:X.calm=true)(h:PY X es t)(hn:(assignEach es X.env).length=n:=by rfl)(jW:(assignEach es X.env).findIdx? (·.1)=none:=by rfl):PG X (.Tuple es kt pos) (Ge X.K n t):=by
 intro ae s σ H v u Q I r hw;obtain⟨k,l,xs,rfl,hq,hl,hw⟩:=hw;cases r
 cases k with
 |false=>
  obtain⟨its,rv,ht,hz⟩:=I.tuple hq;refine assign_Tuple_tuple (I.ok.hd hc) ht (by simp[hn,←hl,rv.length]) jW λh' hx=>?_;have I1:Inv X ae σ H { s with heap:=h' }:=I.kept (t':=s.toks) λb o e=>hx b o (vS (vX e)) e;exact h ae _ σ H xs _ Q I1 (by simpa using rv) hw
 |true=>
  obtain⟨its,rv,ht,hz⟩:=I.list hq;rw[assign_Tuple];refine wX (wpAny_standAt ?_);unfold unpack;have hsz:(assignEach es X.env).length=its.toArray.size:=by simp[hn,←hl,rv.length]
  rw[hsz,jW];refine wX (wpAny_holding (PySem.W.kun_itemsOf (I.ok.hd hc) ht.isList λh' hx=>?_));have I1:Inv X ae σ H { s with heap:=h' }:=I.kept (t':=s.toks) λb o e=>hx b o (vS (vX e)) e;exact h ae _ σ H xs _ Q I1 (by simpa using rv) hw
@[simp] def y4 (is:List Nat)(f:FE):FS:=λρ=>(f ρ).bind λx=>(gH x.1).bind λds=>(gb is ds (if b9 ds=true then ρ else unown ρ)).map .nx
theorem Gf {K:PySem.W.Frag}{is:List Nat}{f:FE}{E:Ends}{σ:St}{H:Hp}(q:nU K (y4 is f) E σ H):xQ (tD K f) (Ge K is.length (lS is)) E σ H:=by
 obtain⟨B0,H0,ρ,r,⟨N,s⟩,e,p⟩:=q;obtain⟨x,ex,e⟩:=oX e;obtain⟨ds,es,e⟩:=oX e;obtain⟨ρ',eρ,e⟩:=oY e;subst e;refine⟨N,ρ,x.1,x.2,s.ext.nh,s.rep,ex,λv H1 N1 x1 i1 _=>?_⟩;obtain⟨k,a,vs,rfl,sq,il⟩:=LI i1 es;have s1:=s.grow x1;refine⟨k,a,vs,rfl,sq.same x1.nh,by rw[il.length];exact lf eρ,?_⟩;by_cases hn:b9 ds=true
 ·rw[if_pos hn]at eρ;exact lb s1 (s1.flats il hn) eρ λσ' s'=>p σ' H1 ⟨N1,s'⟩
 ·rw[if_neg hn]at eρ;exact lb s1.unown (il.mono λa o e=>by rw[cV nS];exact e) eρ λσ' s'=>p σ' H1 ⟨N1,s'⟩
theorem J8 (he:JE X e f)(hg:PG X (.Tuple es kt p2) (Ge X.K is.length (lS is)))(hs:swapsWithSole [.Tuple es kt p2] e pos.line X.env=pure false:=by rfl)(hw:swappedStores [.Tuple es kt p2] e X.env=pure none:=by rfl)
  (h1:(assignEach [.Tuple es kt p2] X.env).map (·.2)=[assign (.Tuple es kt p2) X.env]:=by rfl):JS X (.Assign [.Tuple es kt p2] e pos) (y4 is f):=PS.to (Fb he hg hs hw h1) λ_ _ _ q=>Gf q
@[simp] def DK (i:Nat)(fk fv:FE):FS:=λρ=>match ρ[i]? with
 |some (some (.lst ds,true))=>(fv ρ).bind λv=>(fk ρ).bind λk=>match k.1 with
  |.int j=>(D2 ds.length j).bind λn=>if bg v.1=true then some (.nx (ρ.set i (some (.lst (ds.set n v.1),true))))else none
  |_=>none
 |_=>none
theorem Gg (hv:JE X e fv)(hk:JE X k fk)(hN:X.N[i]? = some y:=by rfl)(BB:EX X.env.scope y:=by first|exact Or.inl rfl|exact Or.inr (Or.inl rfl)|exact Or.inr (Or.inr rfl))(hd:(y == ("__debug__" : Str))=false:=by decide)
  (jG:(y == ("__classdict__" : Str))=false:=by decide)
  (ha:∀v,assign (.Subscript (.Name y py) k pt) X.env v=(do
   let ov ←holding [v] (eval (.Name y py) X.env)
   let iv ←holding [v,ov] (eval k X.env)
   standAt pt
   holding [v,ov,iv] (setItem ov iv v)
   release [v,ov,iv] []):=by intro _;rfl)
  (hs:swapsWithSole [.Subscript (.Name y py) k pt] e pos.line X.env=pure false:=by rfl) (hw:swappedStores [.Subscript (.Name y py) k pt] e X.env=pure none:=by rfl)
  (h1:(assignEach [.Subscript (.Name y py) k pt] X.env).map (·.2)=[assign (.Subscript (.Name y py) k pt) X.env]:=by rfl):JS X (.Assign [.Subscript (.Name y py) k pt] e pos) (DK i fk fv):=by
 refine PS.to (Fb hv (MG (lO hN BB hd jG) hk Fk ha) hs hw h1) λE σ H q=>?_;obtain⟨B0,H0,ρ,r,⟨N,s⟩,ee,p⟩:=q;unfold DK at ee;split at ee
 ·rename_i ds ei;obtain⟨v,ev,ee⟩:=oX ee;obtain⟨kk,ek,ee⟩:=oX ee;obtain⟨kd,kb⟩:=kk;cases kd with
  |int j=>
   dsimp only at ee;obtain⟨n,en,ee⟩:=oX ee;split at ee
   ·rename_i hn;cases ee
    refine⟨N,ρ,v.1,v.2,s.ext.nh,s.rep,ev,λv1 H1 N1 x1 i1 _=>?_⟩;have s1:=s.grow x1;obtain⟨l,vs,KR,z,h1,h2,h3,h4⟩:=s1.owL i _ ei;cases z
    refine⟨_,h1,N1,ρ,_,_,s1.ext.nh,s1.rep,ek,λkv H2 N2 x2 i2 _=>?_⟩;cases i2
    have s2:=s1.grow x2;obtain⟨l',SH,KR,z,k1,k2,k3,k4⟩:=s2.owL i _ ei;cases z
    rw[h1]at k1;cases k1;exact⟨l,SH,j,n,rfl,rfl,s2.ext.nh _ _ k2,by rw[k4.length];exact en,p σ _ ⟨_,s2.write ei h1 (IsL.set (s2.flat (i1.mono x2.bn) hn) n k4)⟩⟩
   ·cases ee
  |_=>cases ee
 ·cases ee
@[simp] noncomputable def X1 (i:Nat)(g:List D->Option (List D)):FS:=λρ=>match ρ[i]? with
 |some (some (.lst ds,true))=>(g ds).map λes=>.nx (ρ.set i (some (.lst es,true)))
 |_=>none
@[simp] def X2 (i:Nat)(f:FE):FS:=λρ=>match ρ[i]? with
 |some (some (.lst ds,true))=>(f ρ).bind λx=>match x.1 with
  |.lst es=>if x.2=true/\b9 es=true/\ds.length+es.length<=sizeLine then some (.nx (ρ.set i (some (.lst (ds++es),true))))else none
  |_=>none
 |_=>none
@[simp] noncomputable def tu:List D->Option (D×Bool)
 |[.int i]=>some (.int i,false)
 |[.bl b]=>some (.int (if b then 1 else 0),false)
 |_=>none
theorem LK:bT X (.type "int") (A6 X.K tu):=by
 refine bT.to Dz λxs H Q q=>?_;obtain⟨B,ds,d,bb,sB,i,ee,q⟩:=q;cases i with
 |nil=>simp[tu]at ee
 |cons i1 i2=>
  cases i2 with
  |cons _ _=>cases i1<;>simp[tu]at ee
  |nil=>
   cases i1<;>try (simp[tu]at ee;done)
   ·simp only[tu]at ee;cases ee
    exact .inr ⟨_,rfl,q.one sB (.int _)⟩
   ·simp only[tu]at ee;cases ee
    exact .inl ⟨_,rfl,q.one sB (.int _)⟩
end
open AutoSeq1 (wpAny_loadPart')
set_option maxRecDepth 100000
noncomputable def VG (k:Bool):String:=if k=true then "list" else "tuple"
theorem y6 (k:Bool)(l:Addr)(items:Array Value)(n:Nat)(O6:Option Addr)(sl:Array (Option Value)):
  Meets (Builtin.«enumerate.__new__» ⟨[.type "enumerate",.ref l],[]⟩) (λ_ R s=>s.heap.get? l=some { cls:=.type (VG k),dict:=O6,data:=.seq items n,slots:=sl } /\
   R (.ok (.ret (.ref (s.heap.push (NJ k l)).objs.size))) { s with heap:=(s.heap.push (NJ k l)).push { cls:=.type "enumerate",data:=.fields #[.none,.bool false,.ref s.heap.objs.size,rawInt 0,.none,.none] } }) :=
 .of_wp λprog w A R s hs=>by
  obtain⟨hp,g,d,tk,os⟩:=s;obtain⟨hl,hs⟩:=hs;have HR:=sub_enumerate;have hL:Al k (Shared.heap ⟨hp,g,d,tk,os⟩) l items:=by cases k<;>exact⟨_,hl,rfl,n,rfl⟩
  wp_walk using wpAny_loadPart' hl;refine wpAny_stack_any λst=>wY ?_;split
  ·rename_i c _ _ _ _ _;cases (c == Value.type "enumerate")
   ·wp_walk using wpAny_loadPart' hl,wG hL;exact⟨_,rfl,hs⟩
   ·wp_walk using wpAny_loadPart' hl,wG hL;exact⟨_,rfl,hs⟩
  ·wp_walk using wpAny_loadPart' hl,wG hL;exact⟨_,rfl,hs⟩
section
variable {prog:Program}{w:World}{A:Around}{E:Value->Shared->Prop}{s:Shared}
theorem Gh (hL:Al k s.heap l items)
  (q:∀h',IsEnum h' (s.heap.objs.size+1) s.heap.objs.size 0 .none->BY k h' s.heap.objs.size l 0->(∀b o,s.heap.get? b=some o->h'.get? b=some o)->Q (.ref (s.heap.objs.size+1)) { s with heap:=h' }):
  wpAny (model prog w) A (call (.type "enumerate") [.ref l]) Q E s:=by
 have hh:∃(O6:Option Addr)(sl:Array (Option Value))(n:Nat),s.heap.get? l=some { cls:=.type (VG k),dict:=O6,data:=.seq items n,slots:=sl }:=by
  cases k<;>(obtain⟨⟨c,O6,dt,sl⟩,hl,hc,n,hd⟩:=hL;dsimp only at hc hd;subst hc;subst hd;exact⟨O6,sl,n,hl⟩)
 obtain⟨O6,sl,n,hl⟩:=hh;refine callType_new PySem.F.called_enumerate (by decide) (PySem.F.typeCall_enumerate_1 _) (PySem.F.newCall_enumerate_1 _) (λobj=>PySem.F.args_object_init_2 obj _) PySem.F.entry_enumerate_new (y6 k l items n O6 sl) ⟨hl,?_⟩;have n1:(s.heap.push (NJ k l)).objs.size=s.heap.objs.size+1:=Heap.size_push ..;have g2:((s.heap.push (NJ k l)).push { cls:=.type "enumerate",data:=.fields #[.none,.bool false,.ref s.heap.objs.size,rawInt 0,.none,.none] }).get? (s.heap.push (NJ k l)).objs.size=some _:=vY _ rfl;have g1:((s.heap.push (NJ k l)).push { cls:=.type "enumerate",data:=.fields #[.none,.bool false,.ref s.heap.objs.size,rawInt 0,.none,.none] }).get? s.heap.objs.size=some _:=vZ _ (vY _ (by cases k<;>rfl))
 rw[n1]at g2;show _/\_;rw[n1];refine⟨⟨_,g2,rfl⟩,q _ g2 ?_ λb o e=>vZ _ (vZ _ e)⟩;cases k<;>exact⟨_,g1,rfl,rfl⟩
theorem NM (hA:A.handled=none)(it l:Addr)(p0:l≠it)(items:Array Value):Draws prog w A it [it,l] items.size (λi v=>items[i]? = some v) (λi h=>BY k h it l i/\Al k h l items) where
 live:=λi h st=>let ⟨o,e,_⟩:=st.1.ob;⟨o,e⟩
 frame:=λi h h' st kk=>⟨st.1.upon λo e=>kk it (by simp) o e,st.2.upon λo e=>kk l (by simp) o e⟩
 item:=λi s Q E hi st q=>DJ st.1 st.2 (v:=items[i]) (by simp[hi]) λh' jm sb=>q _ h' s.toks (by simp[hi]) ⟨jm,st.2.upon λo e=>sb.extBut _ _ p0 e⟩ sb
 done:=λs Q E st q=>y0 hA st.1 st.2 (by simp) q
theorem NN (hA:A.handled=none)(it l:Addr)(items:Array Value)(n:Nat)(hn:items[n]? = none):Draws prog w A it [it,l] n (λ_ _=>True) (λi h=>(BY k h it l i/\Al k h l items)/\i=n) where
 live:=λi h st=>let ⟨o,e,_⟩:=st.1.1.ob;⟨o,e⟩
 frame:=λi h h' st kk=>⟨⟨st.1.1.upon λo e=>kk it (by simp) o e,st.1.2.upon λo e=>kk l (by simp) o e⟩,st.2⟩
 item:=λi s Q E hi st q=>absurd st.2 (vS hi)
 done:=λs Q E st q=>y0 hA st.1.1 st.1.2 hn q
end
noncomputable def TN (K:PySem.W.Frag)(k:Bool)(a:Addr):It :=
  ⟨λi H=>∃xs x,Am k K H a xs/\xs[i]? = some x,
   λi H v H'=>∃T x,v=.ref T/\H T=none/\H'=upd H T (.tup [.int i,x])/\∀xs,Am k K H a xs->xs[i]? = some x,
   λi H=>∃xs,Am k K H a xs/\xs.length<=i⟩
theorem DM {P:Program}{w:World}{K:PySem.W.Frag}{es:List Expr}{kt:Nat}{pt:Pos}{k:Bool}{a e it:Addr}(UD:e≠it)(Y0:a≠e)(Y1:a≠it):
  Turn P w K (.Tuple es kt pt) (TN K k a) [e,it] e (λi h=>(∃Mi,IsEnum h e it i Mi)/\BY k h it a i) where
 mem:=by simp
 obj:=λi h st b hb=>by
  obtain⟨⟨Mi,he⟩,t1⟩:=st;simp at hb;rcases hb with rfl|rfl
  ·exact⟨_,he,λv z=>by cases z⟩
  ·exact t1.ob
 keep:=λi h h' st kk=>by
  obtain⟨⟨Mi,he⟩,t1⟩:=st;exact⟨⟨Mi,kk e (by simp) _ he⟩,t1.upon λo q=>kk it (by simp) o q⟩
 item:=by
  intro X hP hw hK hc i ae s σ H E I hf st hg;subst hP hw hK;obtain⟨⟨Mi,he⟩,t1⟩:=st;obtain⟨xs,x,q1,hx⟩:=hg;obtain⟨its,r1,p1,z1⟩:=q1.vals I;obtain⟨u,hu,ru⟩:=r1.get hx;have fresh:H s.heap.objs.size=none:=I.hok.fresh (vT _);have Y2:i<its.toArray.size:=by rw[vH];exact(vV hu).1
  have ES:e≠s.heap.objs.size:=vS (vX he);have SN:it≠s.heap.objs.size:=by obtain⟨o,q,_⟩:=t1.ob;exact vS (vX q)
  refine wpAny_pyNext_enum_itemD (NM (A:=X.A.in1) (I.ok.hd hc) it a Y1 its.toArray) he ⟨t1,p1⟩ Y2 UD (by simp[UD,Y0.symm]) λv h' tk hv ho jm hT hsz hk=>?_;have ev:v=u:=by
   have Wx:its[i]? = some v:=by simpa using hv
   rw[hu]at Wx;exact(vK Wx).symm
  subst ev;refine⟨_,rfl,wpAny_letOwnedTupleGo_enum (s:={ s with heap:=h',toks:=tk+1 }) ho λh2 Pr s2=>?_⟩;have Ps:Heap.SameBut e h' h2:=s2;have kk:∀b o,b∉[e,it]->s.heap.get? b=some o->h2.get? b=some o:=λb o hb q=>Ps.extBut _ _ (λz=>hb (by simp[z])) (hk b o (λz=>hb (by simp[z])) (λz=>hb (by simp[z])) q);have new:bR X.prog X.w (upd H s.heap.objs.size (.tup [.int i,x])) h2 s.heap.objs.size (.tup [.int i,x]):=⟨by show 2<=sizeLine;decide,[.int i tk,v],.cons ⟨tk,rfl⟩ (.cons ru .nil),⟨_,Ps.extBut _ _ ES.symm hT,rfl,_,rfl⟩⟩;refine⟨.ref s.heap.objs.size,upd H s.heap.objs.size (.tup [.int i,x]),LH (s:=s) (t':=tk+1) I hf kk (vT _) new,rfl,⟨_,x,rfl,fresh,rfl,λzs hq=>by rw[Am.inj I hq q1];exact hx⟩,?_,λb hb=>?_⟩
  ·exact⟨⟨_,by have:=Pr;rw[show((i:Int)+1)=((i+1:Nat):Int) by omega]at this;exact this⟩,jm.1.upon λo q=>Ps.extBut _ _ UD.symm q⟩
  ·have p0:b≠s.heap.objs.size:=by
    simp at hb;rcases hb with rfl|rfl
    ·exact ES
    ·exact SN
   rw[aK p0];exact(hf b hb).1
 done:=by
  intro X hP hw hK hc i ae s σ H E I hf st hg;subst hP hw hK;obtain⟨⟨Mi,he⟩,t1⟩:=st;obtain⟨xs,q1,hl⟩:=hg;obtain⟨its,r1,p1,z1⟩:=q1.vals I;have n1:=r1.length;refine wpAny_pyNext_enum_endD (NN (A:=X.A.in1) (I.ok.hd hc) it a its.toArray i (by simp;omega)) he ⟨⟨t1,p1⟩,rfl⟩ λh' hk=>⟨rfl,?_⟩;exact pH (t':=s.toks) I hf λb o hb q=>hk b o (λz=>hb (by simp[z])) q
 self:=λ_ _ _ _ _ st h=>let ⟨⟨_,he⟩,_⟩:=st;wpAny_pyIter_enum he h
section
variable {X:Cx}{a b e:Expr}{pos:Pos}{p:Pos}
theorem y7:bootBuiltins "enumerate" = some (.type "enumerate"):=by decide +kernel
noncomputable def uc (ds:List D):List D:=ds.mapIdx λi d=>.tup [.int i,d]
@[simp] def Gi (fa:FE):FA:=λρ=>(fa ρ).bind λx=>(gH x.1).map uc
theorem J9 {K:PySem.W.Frag}{N:Hp}{k:Bool}{l:Addr}{vs:List V}{ds:List D}(h1:Am k K N l vs)(i1:IsL K N vs ds):p9 K (TN K k l) N (uc ds):=by
 intro i H' sm;have n1:=i1.length;refine⟨λd ed=>?_,λhl=>⟨vs,h1.same sm,?_⟩⟩
 ·unfold uc at ed;rw[List.getElem?_mapIdx]at ed;obtain⟨x,e1,rfl⟩:=oY ed;obtain⟨v,ev,iv⟩:=i1.get e1;refine⟨⟨vs,v,h1.same sm,ev⟩,λr H2 hy=>?_⟩;obtain⟨T,v',rfl,hT,rfl,f1⟩:=hy;have e3:=f1 vs (h1.same sm);rw[ev]at e3;cases e3;have xt:=Ext.laid (o:=.tup [.int i,v]) sm hT;exact⟨_,xt,.tup (jo.of aG) (.cons (.int _) (.cons (iv.mono xt.bn) .nil))⟩
 ·unfold uc at hl;rw[List.length_mapIdx]at hl;omega
theorem JB {es:List Expr}{kt:Nat}{pt:Pos}{fa:FE}(hm:X.mg "enumerate" = none)(ha:JE X a fa)(hg:Gl X "enumerate":=by rfl)(hs:starEach [a] X.env=[(false,eval a X.env)]:=by rfl):
  JI X (.Tuple es kt pt) (.Call (.Name "enumerate" p) [a] [] pos) (Gi fa):=by
 intro ae s σ H R I q;refine Call_ (lP I hg hm y7 (PyProof.Rows.callWith_type1 (cY (ah ha am hs pos ae s σ H (λvs H1=>∃(k:Bool)(l:Addr)(us:List V),vs=[.ref l]/\Am k X.K H1 l us/\R (TN X.K k l) H1) I ?_) λus s1 ⟨vs,H1,I1,r1,q1⟩=>?_) hs rfl))
 ·obtain⟨B,ρ,ds,sB,r,ee,q⟩:=q;obtain⟨x1,ex,ee⟩:=oX ee;obtain⟨xs,Y3,ee⟩:=oY ee;subst ee;refine⟨B,ρ,[x1.1],sB,r,by simp[af,aj,ex],λvs H1 N1 xt i1=>?_⟩;cases i1 with
  |cons j1 j2=>
   cases j2
   obtain⟨k1,l1,us,rfl,s1,m1⟩:=LI j1 Y3;exact⟨k1,l1,us,rfl,s1.same xt.nh,q _ H1 N1 xt (J9 s1 m1)⟩
 ·obtain⟨k,l,ws,rfl,h1,q⟩:=q1;obtain⟨u1,rfl,Y4⟩:=r1.one;cases Y4
  obtain⟨its,v1,p1,z1⟩:=h1.vals I1;have S5:=p1.lt;refine Gh p1 λh' c1 c2 ck=>?_;refine wpAny_pyIter_enum c1 ⟨s1.heap.objs.size+1,[s1.heap.objs.size+1,s1.heap.objs.size],_,_,H1,rfl,I1.kept (t':=s1.toks) ck,
   DM (Nat.succ_ne_self _) (vS (Nat.lt_succ_of_lt S5)) (vS S5),⟨⟨_,c1⟩,c2⟩,λb hb=>?_,q⟩
  have Ix:s1.heap.objs.size<=b:=by
   simp at hb;rcases hb with rfl|rfl
   ·exact Nat.le_succ _
   ·exact vT _
  exact I1.fpOk Ix (I1.hok.fresh Ix)
end
end DL
namespace DL
open PySem PySem.Spec PyProof.Rows
theorem DN (t:SetTable)(es:Array (Int×Value))(n:Nat):(relayAll t es n).2.1.led=t.led:=by
 unfold relayAll;split
 ·rename_i t' order h;unfold SetTable.relaid SetTable.laid at h;obtain⟨ow,_,h⟩:=oX h;cases h
  dsimp only;split<;>rfl
 ·rfl
theorem y8 (t:SetTable)(es:Array (Int×Value))(n:Nat)(hp:t.plain=false):(relayAll t es n).2.1.plain=false:=by
 unfold relayAll;split
 ·rename_i t' order h;unfold SetTable.relaid SetTable.laid at h;obtain⟨ow,_,h⟩:=oX h;cases h
  dsimp only;split
  ·exact hp
  ·rfl
 ·rfl
theorem JD (t:SetTable)(es:Array (Int×Value))(h:Int)(x:Value):(layNew t es h x).2.1.led=t.led:=by
 unfold layNew;split
 ·dsimp only[SetTable.put,SetTable.orStandIn];repeat' (first|rfl|split)
 ·rfl
structure TabT (w:World)(es:Array (Int×Value))(t:SetTable):Prop where
 fits:t.fits es.size=true
 led:t.led = !w.params.followText "set-order"
 plain:es.size≠0->t.plain=false
def jf (prog:Program)(w:World)(h:Heap)(a:Addr)(ts:List Str):Prop :=
 ∃o es ep t,h.get? a=some o/\o.ExactSet/\o.data=.set es ep t/\ElemsOf (PySem.strKind prog w) es.toList/\(es.toList.map (λe=>strOf e.2)).Perm ts/\ts.Nodup/\ts.length<scanBound/\TabT w es t
noncomputable def kn (ts:List Str)(x:Str):List Str:=if x∈ts then ts else ts++[x]
theorem Gj (ts:List Str)(x:Str):(kn ts x).length<=ts.length+1:=by unfold kn;split<;>simp
theorem y9 (h:Value.isStrOf k v=true):strOf v=k:=by obtain⟨t,rfl⟩:=Value.isStrOf_shape h;rfl
section
variable {prog:Program}{w:World}{A:Around}{E:Value->Shared->Prop}{s:Shared}
theorem ud {es:Array (Int×Value)}{ts:List Str}(ES:ElemsOf (PySem.strKind prog w) es.toList)(hp:(es.toList.map (λe=>strOf e.2)).Perm ts)(k:Str):k∈ts ↔ ∃e∈es.toList,(PySem.strKind prog w).is k e.2=true:=by
 rw[←hp.mem_iff,List.mem_map];constructor
 ·rintro⟨e,he,rfl⟩;obtain⟨⟨k',hk,_⟩,_⟩:=ES e he;have fP:Value.isStrOf k' e.2=true:=hk;refine⟨e,he,?_⟩;show Value.isStrOf (strOf e.2) e.2=true;rw[y9 fP];exact fP
 ·rintro⟨e,he,hk⟩;exact⟨e,he,y9 hk⟩
theorem ue {h:Heap}{a:Addr}{o:Obj}{es:Array (Int×Value)}{ep:Nat}{t:SetTable}(ho:h.get? a=some o)(hd:o.data=.set es ep t)(EO:Array (Int×Value))(t':SetTable):
  (h.update a (Obj.putSet EO t')).get? a=some { o with data:=.set EO (ep+1) t' }:=by
 have:=Heap.get?_update_self (Obj.putSet EO t') ho (by rw[putSet_of EO t' hd];rfl);rw[putSet_of EO t' hd]at this;exact this
theorem yA {g:Bool->Sem Unit}(hg:∀(b:Bool)(s₁:Shared)(Q':Unit->Shared->Prop),Q' () s₁->wpAny (model prog w) A (g b) Q' E s₁)
  {a:Addr}{o:Obj}{es:Array (Int×Value)}{ep:Nat}{t:SetTable}(ho:s.heap.get? a=some o) (KY:o.ExactSet) (hd:o.data=.set es ep t)
  {nN:Array (Int×Value)}{t2:SetTable}{ts:List Str}(HS:ElemsOf (PySem.strKind prog w) nN.toList) (Pt:(nN.toList.map (λe=>strOf e.2)).Perm ts) (nd:ts.Nodup)
  (hb1:ts.length<scanBound) (Y5:t2.fits nN.size=true) (Dj:t2.led = !w.params.followText "set-order") (lL:t2.plain=false) {Ac:Bool}{R:Option Bool->Shared->Prop}
  (h:∀h',Heap.SameBut a s.heap h'->jf prog w h' a ts->R (some true) { s with heap:=h' }):
  wpAny (model prog w) A (do
    storeSet a nN t2
    if(!Ac && t2.tooFull)=true then do
      g (relayAll t2 nN (SetTable.grown nN.size)).2.2
      storeSet a (relayAll t2 nN (SetTable.grown nN.size)).1 (relayAll t2 nN (SetTable.grown nN.size)).2.1
      pure (some true)
     else pure (some true)) R E s:=by
 have Wy:nN.size=ts.length:=by rw[←Pt.length_eq,vI,vG]
 refine wX (wpAny_storeSet_of ho hd ?_ (fits_of_scanBound (by rw[Wy];exact hb1)));have KZ:=ue ho hd nN t2;have R8:=vW s.heap a (Obj.putSet nN t2);split
 ·have hp:=relayAll_perm t2 nN (SetTable.grown nN.size);have R9:=relayAll_fits t2 nN (SetTable.grown nN.size);have Ix:=DN t2 nN (SetTable.grown nN.size);have UE:=y8 t2 nN (SetTable.grown nN.size) lL;generalize hRl:relayAll t2 nN (SetTable.grown nN.size)=Rl at hp R9 Ix UE ⊢;obtain⟨SO,t3,Wz⟩:=Rl;dsimp only at hp R9 Ix UE ⊢;have UF:ElemsOf (PySem.strKind prog w) SO.toList:=HS.perm hp;have hsz:SO.size=nN.size:=by rw[←vG,hp.length_eq,vG]
  refine wX (hg _ _ _ ?_);refine wX (wpAny_storeSet_of KZ rfl ?_ (fits_of_scanBound (by rw[hsz,Wy];exact hb1)));have KN:=ue KZ rfl SO t3;exact wY (h _ (R8.trans (vW _ a _)) ⟨_,SO,_,t3,KN,KY,rfl,UF,(hp.map _).trans Pt,nd,hb1,R9,Ix.trans Dj,λ_=>UE⟩)
 ·exact wY (h _ R8 ⟨_,nN,_,t2,KZ,KY,rfl,HS,Pt,nd,hb1,Y5,Dj,λ_=>lL⟩)
theorem AR {a:Addr}{ts:List Str}{k:Str}{tk:Tok}{Q:Bool->Shared->Prop}(hS:jf prog w s.heap a ts)(HU:ts.length+1<scanBound)
  (h:∀b h',Heap.SameBut a s.heap h'->jf prog w h' a (kn ts k)->Q b { s with heap:=h' }):
  wpAny (model prog w) A (setAddHashed a (.str k tk) ((PySem.strKind prog w).hash k)) Q E s:=by
 have hS0:=hS;obtain⟨o,es,ep,t,ho,KY,hd,ES,xE,nd,hb,hf,La,lL⟩:=hS;have zX:(PySem.strKind prog w).is k (.str k tk)=true:=strKind_is prog w k tk;have sz:es.size=ts.length:=by rw[←xE.length_eq,vI,vG]
 unfold setAddHashed setAddHashedIn;refine wpAny_holding (wX (wpAny_setState_of ho hd hf ?_));dsimp only;rw[byScan_of (x:=.str k tk) rfl (by rw[sz];exact hb) ES];simp only[↓reduceIte];unfold setAddByScan;refine wX ?_;refine wX (wpAny_rule ?_);refine wX (wpAny_setScan_of zX ho hd hf ES ?_);cases hr:List.findIdx? (λe=>(PySem.strKind prog w).is k e.2) es.toList with
 |some j=>
  dsimp only;obtain⟨hj,Y6,_⟩:=List.findIdx?_eq_some_iff_getElem.mp hr;have hm:k∈ts:=(ud ES xE k).mpr ⟨es.toList[j],List.getElem_mem hj,Y6⟩;refine wY (wY ?_);have e:kn ts k=ts:=by unfold kn;rw[if_pos hm]
  exact h false s.heap (Heap.SameBut.refl a s.heap) (by rw[e];exact hS0)
 |none=>
  dsimp only;have hm:k∉ts:=λz=>by
   obtain⟨e,he,hp⟩:=(ud ES xE k).mp z;have:=List.findIdx?_eq_none_iff.mp hr e he;rw[hp]at this;exact Bool.noConfusion this
  have ea:kn ts k=ts++[k]:=by unfold kn;rw[if_neg hm]
  have Y7:∀(b:Bool){s₁:Shared}{Q':Unit->Shared->Prop},Q' () s₁->wpAny (model prog w) A (match b with|true=>rule "set.scan.the-table-gave-way" | false=>pure ()) Q' E s₁ :=
   λb s₁ Q' hq=>by cases b<;>first|exact wY hq|exact wpAny_rule hq
  have gU:=layNew_perm t es ((PySem.strKind prog w).hash k) (.str k tk);have Dk:=layNew_fits t es ((PySem.strKind prog w).hash k) (.str k tk);have Mj:=JD t es ((PySem.strKind prog w).hash k) (.str k tk);generalize hL:layNew t es ((PySem.strKind prog w).hash k) (.str k tk)=L at gU Dk Mj ⊢;obtain⟨nN,t1,Ac,UG⟩:=L;dsimp only at gU Dk Mj ⊢;rw[Array.toList_push]at gU;have HS:ElemsOf (PySem.strKind prog w) nN.toList:=(ES.push zX rfl).perm gU;have Pt:(nN.toList.map (λe=>strOf e.2)).Perm (ts++[k]):=(gU.map _).trans (by rw[uW];exact xE.append_right _);have W1:(ts++[k]).Nodup:=by
   rw[List.nodup_append];refine⟨nd,by simp,λx hx y hy=>?_⟩;rw[List.mem_singleton]at hy;subst hy;exact λz=>hm (z ▸ hx)
  have hb1:(ts++[k]).length<scanBound:=by rw[uZ];exact HU
  refine wX (Y7 _ ?_);have RA:∀h',Heap.SameBut a s.heap h'->jf prog w h' a (ts++[k])->Q true { s with heap:=h' }:=λh' hsb HV=>h true h' hsb (by rw[ea];exact HV);split
  ·refine wX ?_;rw[hashByValue_scannable 8 (x:=.str k tk) rfl];refine wY ?_;refine yA ?_ ho KY hd HS Pt W1 hb1 ?_ ?_ ?_ ?_
   ·intro b s₁ Q' hq;cases b<;>first|exact wY hq|exact wpAny_rule hq
   ·exact SetTable.fits_plain_off Dk
   ·exact Mj.trans La
   ·rfl
   ·intro h' hsb HV;dsimp only;exact wY (RA h' hsb HV)
  ·rename_i Pu;refine wX (wY ?_);simp only[↓reduceIte];refine yA ?_ ho KY hd HS Pt W1 hb1 Dk (Mj.trans La) (by simpa using Pu) ?_
   ·intro b s₁ Q' hq;cases b<;>first|exact wY hq|exact wpAny_rule hq
   ·intro h' hsb HV;dsimp only;exact wY (RA h' hsb HV)
end
noncomputable def iR (ss:List Str):List Str:=ss.foldl kn []
theorem AS (h:ts.Nodup)(x:Str):(kn ts x).Nodup:=by
 unfold kn;split
 ·exact h
 ·rename_i hm;rw[List.nodup_append];refine⟨h,by simp,λy hy z hz=>?_⟩;rw[List.mem_singleton]at hz;subst hz;exact λe=>hm (e ▸ hy)
theorem yB:y∈kn ts x↔y∈ts∨y=x:=by
 unfold kn;split
 ·rename_i hm;exact⟨.inl,λz=>z.elim id λe=>e ▸ hm⟩
 ·simp
theorem wH (ss:List Str):∀ts:List Str,(ss.foldl kn ts).length<=ts.length+ss.length:=by
 induction ss with
 |nil=>intro ts;simp
 |cons x r ih=>intro ts;rw[List.foldl_cons];have:=ih (kn ts x);have:=Gj ts x;simp only[vE];omega
theorem qo (ss:List Str):(iR ss).length<=ss.length:=by have:=wH ss [];simpa [iR]using this
theorem DO (ss:List Str)(x:Str):iR (ss++[x])=kn (iR ss) x:=by unfold iR;rw[List.foldl_append];rfl
theorem StrsAre.at:∀ {vs:List Value}{ss:List Str},StrsAre vs ss->∀(i:Nat)(v:Value),vs[i]? = some v->∃x t,v=.str x t/\ss[i]? = some x
 |_,_,.nil,i,v,h=>by simp at h
 |_,_,.cons x t hr,0,v,h=>by simp at h;exact⟨x,t,h.symm,rfl⟩
 |_,_,.cons x t hr,i+1,v,h=>by
  simp only[List.getElem?_cons_succ]at h;exact StrsAre.at hr i v h
theorem jf.at (x:jf prog w h a ts)(k:∀o,h.get? a=some o->h'.get? a=some o):jf prog w h' a ts:=by
 obtain⟨o,es,ep,t,ho,r⟩:=x;exact⟨o,es,ep,t,k o ho,r⟩
section
variable {prog:Program}{w:World}{A:Around}{R:Result->Shared->Prop}{I:Addr}{fp wr:List Addr}{G:Array GenState->Array GenState->Prop}{n:Nat}{P:Nat->Value->Prop}{St:Nat->Shared->Prop}
theorem wI (W:WalksS prog w A.in1 I fp wr G n P St)(S:Addr)(O7:S∉fp)(ss:List Str)(hn:ss.length=n)
  (O8:∀i v,P i v->∃x t,v=.str x t/\ss[i]? = some x) (hb:n+1<scanBound):
  ∀(k i:Nat)(s:Shared),n - i=k->i<=n->St i s->jf prog w s.heap S (iR (ss.take i)) ->
   (∀s',Moved (S::wr) G s s'->jf prog w s'.heap S (iR ss)->R (.ok (.ret .none)) s') ->
   codeAny (model prog w) A (.builtin "set.update.loop" ⟨[.ref S,.ref I],[]⟩) R s:=by
 have W2:S∉wr:=λh=>O7 (W.sub _ h);have HR:∀b∈wr,b∈S::wr:=λb hb=>mZ _ hb;intro k;induction k with
 |zero=>
  intro i s hk hi jW hS hR;have ET:i=n:=by omega
  subst ET;refine codeAny_builtin PyProof.Rows.F.entry_set_update_loop ?_;rw[Around.under_plainId PyProof.Rows.F.plain_set_update_loop _];show wpAny _ A.in1 (pyNext (.ref I)>>=_) _ _ s;refine wX (W.done s _ _ jW λs' hm=>?_);show wpAny _ A.in1 (ret Value.none) _ _ s';refine wY (hR s' (hm.mono HR) ?_);rw[List.take_of_length_le (by omega)]at hS;exact hS.at λo e=>hm.heap S _ W2 e
 |succ k ih=>
  intro i s hk hi jW hS hR;have fN:i<n:=by omega
  refine codeAny_builtin PyProof.Rows.F.entry_set_update_loop ?_;rw[Around.under_plainId PyProof.Rows.F.plain_set_update_loop _];show wpAny _ A.in1 (pyNext (.ref I)>>=_) _ _ s;refine wX (W.item i s _ _ fN jW λv s' hP hst' hm=>?_);obtain⟨x,t,rfl,hx⟩:=O8 i v hP;have HV:jf prog w s'.heap S (iR (ss.take i)):=hS.at λo e=>hm.heap S _ W2 e;show wpAny _ A.in1 (holding [Value.str x t] (setAdd S (.str x t))>>=_) _ _ s';refine wX (wpAny_holding ?_);unfold setAdd;refine wpAny_holding ?_;refine wX ((PySem.strKind prog w).pyHash (k:=x) (strKind_is prog w x t) ?_);have hl:(iR (ss.take i)).length+1<scanBound:=by have:=qo (ss.take i);rw[List.length_take]at this;omega
  refine AR (s:={ s' with toks:=s'.toks+1 }) HV hl λb h' hsb RB=>?_;have Y8:jf prog w h' S (iR (ss.take (i+1))):=by
   rw[List.take_add_one,hx,Option.toList_some,DO];exact RB
  refine wY ⟨plainId_quiet PyProof.Rows.F.plain_set_update_loop _,ih (i+1) _ (by omega) fN (W.frame _ s' _ _ hst' (Nat.le_succ _) λb hb o e=>?_) Y8 λtI hm'' hS''=>?_⟩
  ·rw[hsb.2 b (λh:b=S=>O7 (by rw[←h];exact hb))];exact e
  ·refine hR tI (Moved.trans W.gtrans ((hm.mono HR).then_heap (Nat.le_succ _) λb o hb e=>?_) hm'') hS'';rw[hsb.2 b (λh:b=S=>hb (by rw[h];exact mX))];exact e
end
section
variable {prog:Program}{w:World}{A:Around}{E:Value->Shared->Prop}{s:Shared}
noncomputable abbrev fj (w:World):Obj:={ cls:=.type "set",dict:=none,data:=.set #[] 0 (.fresh 0 0 (!w.params.followText "set-order")) }
theorem yC (a:Value) 
  (h:Q₁ (.ref s.heap.objs.size) { s with heap:=s.heap.push (fj w) }):
  codeAny (model prog w) A (.call (.builtin "set.__new__") ⟨[.type "set",a],[]⟩) (wants Q₁ E) s:=by
 refine codeAny_of_tree ?_;show wpAny _ A.in1 (do checkBuiltinCall "set.__new__" ⟨[.type "set",a],[]⟩;again (.builtin "set.__new__" ⟨[.type "set",a],[]⟩)) _ _ s;refine wX (wpAny_of_eq (PySem.F.newCall_set_1 a) (wY ⟨plainId_quiet PySem.F.plain_set_new _,codeAny_builtin PySem.F.entry_set_new ?_⟩));rw[Around.under_plainId PySem.F.plain_set_new _];unfold Builtin.«set.__new__» Builtin.Frozenset.newClass;have HR:=sub_set_self;obtain⟨hp,g,d,tk,os⟩:=s;dsimp only;wp_walk;refine wpAny_askSetting (wY ?_);dsimp only;simp only[newObj];refine wX (wpAny_alloc (wY ?_));exact wY h
set_option maxHeartbeats 3200000 in
theorem qp 
  (hh:A.handled=none) (hl:s.heap.IsList l items) (hi:StrsAre items.toList ss) (hb:items.size+1<scanBound)
  (h:∀(h':Heap)(tk:Nat),jf prog w h' s.heap.objs.size (iR ss) ->
   (∀b o,b<s.heap.objs.size->s.heap.get? b=some o->h'.get? b=some o)->Q (.ref s.heap.objs.size) { s with heap:=h',toks:=tk }):
  wpAny (model prog w) A (call (.type "set") [.ref l]) Q E s:=by
 obtain⟨c,tl,Y9⟩:=PySem.F.called_set.mro;have W3:=PySem.F.called_set.made;have HR:=PySem.F.called_set.sub;refine wpAny_call (codeAny_of_tree ?_);show wpAny _ _ (callAny (.type "set") _) _ _ _;refine wY ⟨Code.quiet_builtin _ (by decide +kernel),codeAny_builtin PySem.F.entry_type_call ?_⟩;rw[Around.under_plain (weight_type_call_type "set" [.ref l] []) rfl];have h1:=PySem.F.called_set.notType;have h2:=PySem.F.called_set.canCreate;have hct:=PySem.F.typeCall_set_1 (.ref l);have bK:ss.length=items.size:=by have:=hi.strs;rw[←this,vI,vG]
 repeat (any_goals (first|assumption|wp_step))
 refine codeAny_mono (yC (.ref l) (E:=E) (Q₁:=λobj s₁=>obj=.ref s.heap.objs.size/\s₁={ s with heap:=s.heap.push (fj w) }) ⟨rfl,rfl⟩) λr s₁ hr=>?_;cases r with
 |error e=>exact hr
 |ok fl=>
  cases fl with
  |ret obj=>
   obtain⟨rfl,rfl⟩:=hr;have hS:(s.heap.push (fj w)).get? s.heap.objs.size=some (fj w):=vY _ rfl;have hT:Shared.TypeIs { s with heap:=s.heap.push (fj w) } (.ref s.heap.objs.size) "set":=⟨_,hS,rfl⟩;have hli:=PySem.F.called_set.init.lookup;have hbi:=PySem.F.called_set.init.bind (.ref s.heap.objs.size);repeat (any_goals (first|assumption|wp_step))
   refine codeAny_mono (codeAny_call_builtin (R:=wants (λr s₂=>r=.none/\∃h' tk,s₂={ s with heap:=h',toks:=tk } /\
     jf prog w h' s.heap.objs.size (iR ss) /\
     (∀b o,b<s.heap.objs.size->s.heap.get? b=some o->h'.get? b=some o)) E) PySem.F.called_set.init.plain PySem.F.entry_set_init (check_set_init_1 hT ?_)) λr₂ s₂ hr₂=>?_
   ·obtain⟨ol,O9,sP,nl,Iy⟩:=hl;obtain⟨YA,RC,W4,OA⟩:=ol;simp only at sP Iy;subst sP;subst Iy;have UI:(s.heap.push (fj w)).get? l=some { cls:=.type "list",dict:=RC,data:=.seq items nl,slots:=OA }:=vZ _ O9;have YB:=PySem.F.sub_list_set;have YC:=PySem.F.sub_list_frozenset;have p0:(Value.type "list" == Value.type "dict")=false:=by decide
    have Mj:(s.heap.push (fj w)).IsList l items:=⟨_,UI,rfl,nl,rfl⟩;unfold Builtin.«set.__init__» noKeywords Builtin.Frozenset.updateFrom;generalize hPI:pyIter=PI;wp_walk;subst hPI;refine wpAny_pyIter_list Mj ?_;refine wX (wpAny_runValue ?_);have W5:l<s.heap.objs.size:=vX O9;have YD:A.in1.in1.in1.handled=none:=by simp[hh]
    have UJ:l≠(s.heap.push (fj w)).objs.size:=by
     rw[Heap.size_push];exact vS (Nat.lt_succ_of_lt W5)
    have O7:s.heap.objs.size∉[(s.heap.push (fj w)).objs.size,l]:=by
     rw[Heap.size_push];simp only[List.mem_cons,List.mem_singleton,List.not_mem_nil,or_false,not_or];exact⟨vS (Nat.lt_succ_self _),Nat.ne_of_gt W5⟩
    have O8:∀(i:Nat)(v:Value),items[i]? = some v->∃x t,v=.str x t/\ss[i]? = some x:=λi v hv=>
     StrsAre.at hi i v (by rw[Array.getElem?_toList];exact hv)
    refine wI ((Walks.list YD _ l UJ items).toS) s.heap.objs.size
     O7 ss bK O8 hb (items.size - 0) 0 _ (by omega) (uN _)
     ⟨⟨_,vY _ rfl,rfl,rfl⟩,(Mj.push _)⟩ ?hS0 ?hR
    case hS0=>
     have UK:((s.heap.push (fj w)).push { cls:=.type "list_iterator",data:=.fields #[.ref l,.int 0 0] }).get? s.heap.objs.size
       = some (fj w):=vZ _ hS
     exact⟨_,#[],0,_,UK,⟨rfl,rfl,rfl⟩,rfl,λe he=>by simp at he,List.Perm.refl _,List.nodup_nil,(by show(0:Nat)<scanBound;decide),rfl,rfl,λz=>absurd rfl z⟩
    case hR=>
     intro s' hm HV
     obtain⟨h',g',d',Dl,Us⟩:=s'
     have eg:g'=s.gens:=hm.gens
     have ed:d'=s.drawn:=hm.drawn
     have eo:Us=s.os:=hm.os
     subst eg;subst ed;subst eo
     show wpAny _ _ _ _ _ _
     refine wY ?_
     show wpAny _ _ (ret Value.none) _ _ _
     refine wY ⟨rfl,h',Dl,rfl,HV,λb o hb e=>?_⟩
     have hb1:b≠s.heap.objs.size:=vS hb
     have YE:b≠(s.heap.push (fj w)).objs.size:=by
      rw[Heap.size_push];exact vS (Nat.lt_succ_of_lt hb)
     exact hm.heap b o (by simp only[List.mem_cons,List.mem_singleton,List.not_mem_nil,or_false,not_or];exact⟨hb1,YE⟩) (vZ _ (vZ _ e))
   ·cases r₂ with
    |error e=>exact hr₂
    |ok fl₂=>
     cases fl₂ with
     |ret r=>
      obtain⟨rfl,h',tk,rfl,HV,fP⟩:=hr₂;repeat (any_goals (first|assumption|wp_step))
      exact h _ _ HV fP
     |_=>exact hr₂.elim
  |_=>exact hr.elim
end
open Sem (wp)
section
variable {M:Model}{A:Around}{E:Value->Shared->Prop}{s:Shared}
theorem JF (hn:n≠0)(h:∀k d,k<n->Q k { s with drawn:=d }):wpAny M A (choose src n) Q E s:=by
 intro Γ p hG;unfold choose;rw[Sem.wp_choose];refine⟨hn,?_⟩;have:=h _ (s.drawn.bump src) (Nat.mod_lt (M.w.draws src (s.drawn.get src)) (Nat.pos_of_ne_zero hn));simpa using this
end
theorem mD {α:Type}:∀(l:List α)(i:Nat),i<l.length->(l.eraseIdx i).length=l.length - 1:=λl i h=>by rw[List.length_eraseIdx,if_pos h]
theorem lT {α:Type}:∀(l:List α)(i:Nat)(x:α),l[i]? = some x->(x::l.eraseIdx i).Perm l
 |[],i,x,h=>by simp at h
 |a::l,0,x,h=>by simp at h;subst h;exact List.Perm.refl _
 |a::l,i+1,x,h=>by
  rw[List.eraseIdx_cons_succ];simp only[List.getElem?_cons_succ]at h;exact(List.Perm.swap a x _).trans ((lT l i x h).cons a)
theorem Ca {α:Type}:∀(n:Nat)(xs:List α)(s:Shared)(Q:List α->Shared->Prop),xs.length=n->(∀ys d,ys.Perm xs->Q ys { s with drawn:=d })->wpAny M A (drawOrder n xs) Q E s
 |0,xs,s,Q,hl,h=>by
  have:xs=[]:=List.eq_nil_of_length_eq_zero hl;subst this;exact wY (h [] s.drawn (List.Perm.refl _))
 |n+1,[],s,Q,hl,h=>by simp at hl
 |n+1,x::r,s,Q,hl,h=>by
  show wpAny M A (choose .order (x::r).length>>=λi=>match (x::r)[i]? with
   |some x'=>(do return x'::(←drawOrder n ((x::r).eraseIdx i)))
   |none=>unsupported "internal:drawOrder") Q E s
  refine wX (JF (by simp) λk d hk=>?_);obtain⟨y,hy⟩:∃y,(x::r)[k]? = some y:=⟨_,vU hk⟩;rw[hy];refine wX (Ca n _ _ _ (by rw[mD _ _ hk,hl];rfl) λys d' hp=>wY (h _ _ ((hp.cons y).trans (lT _ _ _ hy))))
theorem Cb {α:Type}(next:Nat->Nat):∀(fuel k:Nat)(left:List α)(out:Array α),left.length=fuel->(pickOrder.go next fuel k left out).toList.Perm (out.toList++left)
 |0,k,left,out,hl=>by
  have:left=[]:=List.eq_nil_of_length_eq_zero hl;subst this;unfold pickOrder.go;simp
 |fuel+1,k,left,out,hl=>by
  unfold pickOrder.go;have hk:next k % left.length<left.length:=Nat.mod_lt _ (by omega);obtain⟨y,hy⟩:∃y,left[next k % left.length]? = some y:=⟨_,vU hk⟩;rw[hy];dsimp only;refine(Cb next fuel (k+1) _ _ (by rw[mD _ _ hk];omega)).trans ?_;rw[Array.toList_push,List.append_assoc];exact(lT _ _ _ hy).append_left _
theorem DP {α:Type}(next:Nat->Nat)(xs:Array α):(pickOrder next xs).toList.Perm xs.toList:=by
 have:=Cb next xs.size 0 xs.toList #[] (by simp);simpa [pickOrder]using this
theorem bF:Slot "set_iterator" "__next__" "set_iterator.__next__" :=
 .of (owner:="set_iterator") (n:="__next__") (by rw[typeLookup_type,builtinLookup_eq_fast];kernel_rfl) (by decide +kernel) (by decide +kernel) (by decide +kernel)
  (by first|exact .inl (by decide +kernel)|exact .inr (by decide +kernel)) (by rw[isSubtype_type];kernel_rfl)
theorem fR:entryFor table "set_iterator.__next__" = some Builtin.«set_iterator.__next__»:=entryFor_of_tree (by kernel_rfl)
theorem gE (a:Value):argsOk "set_iterator.__next__" ⟨[a],[]⟩:=by unfold argsOk;kernel_rfl
theorem lD:Slot "set_iterator" "__iter__" "set_iterator.__iter__" :=
 .of (owner:="set_iterator") (n:="__iter__") (by rw[typeLookup_type,builtinLookup_eq_fast];kernel_rfl) (by decide +kernel) (by decide +kernel) (by decide +kernel)
  (by first|exact .inl (by decide +kernel)|exact .inr (by decide +kernel)) (by rw[isSubtype_type];kernel_rfl)
theorem qq:entryFor table "set_iterator.__iter__" = some Builtin.«dict_keyiterator.__iter__» :=
 entryFor_alias (id':="dict_keyiterator.__iter__") (by kernel_rfl) rfl (by decide +kernel) (by kernel_rfl)
theorem tz (a:Value):argsOk "set_iterator.__iter__" ⟨[a],[]⟩:=by unfold argsOk;kernel_rfl
theorem pA:entryFor table "set.__iter__" = some Builtin.«frozenset.__iter__» :=
 entryFor_alias (id':="frozenset.__iter__") (by kernel_rfl) rfl (by decide +kernel) (by kernel_rfl)
noncomputable abbrev lU (fst:Value)(i:Nat)(S:Addr)(n ep:Nat):Obj:={ cls:=.type "set_iterator",data:=.fields #[fst,.int i 0,.ref S,.int n 0,.int ep 0] }
section
variable {prog:Program}{w:World}{A:Around}{E:Value->Shared->Prop}{s:Shared}{it S:Addr}{i ep:Nat}{o:Obj}{es:Array (Int×Value)}{t:SetTable}
theorem dX (ho:s.heap.get? it=some (lU fst i S n ep)):s.TypeIs (.ref it) "set_iterator":=⟨_,ho,rfl⟩
theorem wJ {k k':Nat}{x:Value}{Q:Option Value->Shared->Prop}(ho:s.heap.get? it=some (lU (.int k 0) i S es.size ep))
  (hS:s.heap.get? S=some o) (hd:o.data=.set es ep t) (hf:t.fits es.size=true)
  (hN:∀(A':Around)(E':Value->Shared->Prop)(Q':Option (Value×Nat)->Shared->Prop),Q' (some (x,k')) s->wpAny (model prog w) A' (setNext S k i ep) Q' E' s)
  (hQ:∀h',h'.get? it=some (lU (.int k' 0) (i+1) S es.size ep)->Heap.SameBut it s.heap h'->Q (some x) { s with heap:=h' }):
  wpAny (model prog w) A (pyNext (.ref it)) Q E s:=by
 unfold pyNext;refine wX (wpAny_attempt (wpAny_callSpecial?_slot (name:=Str.ofString "__next__") (dX ho) bF
  (wpAny_call_entry bF (dX ho) fR ?_ (gE _))))
 show wpAny _ _ (fieldsOf (.ref it)>>=_) _ _ s;refine wX (wpAny_fieldsOf ho rfl ?_);show wpAny _ _ (setEntries S>>=_) _ _ s;refine wX (wpAny_setEntries_of hS hd hf ?_);rw[if_neg (by simp)];show wpAny _ _ (setNext S _ _ _>>=_) _ _ s;simp only[Int.toNat_natCast];refine wX (hN _ _ _ ?_);dsimp only;refine wX (wpAny_setField_rec ho (by simp) λh1 e1 b1=>?_);refine wX (wpAny_setField_rec e1 (by simp) λh2 e2 b2=>?_);exact wY ⟨x,rfl,wY (hQ h2 (by simpa [rawInt,lU]using e2) (b1.trans b2))⟩
theorem wK {k:Nat}{Q:Option Value->Shared->Prop}(hh:A.handled=none)(ho:s.heap.get? it=some (lU (.int k 0) i S es.size ep))
  (hS:s.heap.get? S=some o) (hd:o.data=.set es ep t) (hf:t.fits es.size=true)
  (hN:∀(A':Around)(E':Value->Shared->Prop)(Q':Option (Value×Nat)->Shared->Prop),Q' none s->wpAny (model prog w) A' (setNext S k i ep) Q' E' s)
  (hQ:∀h',Heap.ExtBut it s.heap h'->Q none { s with heap:=h' }):
  wpAny (model prog w) A (pyNext (.ref it)) Q E s:=by
 unfold pyNext;refine wX (wpAny_attempt (wpAny_callSpecial?_slot (name:=Str.ofString "__next__") (dX ho) bF
  (wpAny_call_entry bF (dX ho) fR ?_ (gE _))))
 show wpAny _ _ (fieldsOf (.ref it)>>=_) _ _ s;refine wX (wpAny_fieldsOf ho rfl ?_);show wpAny _ _ (setEntries S>>=_) _ _ s;refine wX (wpAny_setEntries_of hS hd hf ?_);rw[if_neg (by simp)];show wpAny _ _ (setNext S _ _ _>>=_) _ _ s;simp only[Int.toNat_natCast];refine wX (hN _ _ _ ?_);dsimp only;refine wX (wpAny_setField_rec ho (by simp) λh1 e1 b1=>?_);refine wX ?_;simp only[newExc,newTuple];refine wX (wpAny_newObj_type ?_ (by size_fits));refine wX (m:=firstArgMember _ _) (wpAny_of_eq (a:=Value.none) (by first|rfl|(simp only[firstArgMember];rfl)) ?_);refine wpAny_newObj_type ?_ (by size_fits);simp only[raiseNew];refine wX (wpAny_handled ?_);rw[show A.in1.handled=none from hh];refine wX (wY (wpAny_throw ?_));refine wX (wpAny_isInstance (T:="StopIteration") (b:=true) ⟨_,vY _ rfl,rfl⟩ isSubtype_stop ?_);exact wY (hQ _ ((b1.extBut.push _).push _))
theorem t6 {T:Addr}{pl:List Nat}{p:Nat}{x:Int×Value}{nt:Nat}{Q:Option Value->Shared->Prop}(ho:s.heap.get? it=some (lU (.ref T) i S es.size ep))
  (hT:s.heap.get? T=some (seqObj "tuple" (pl.map λ(p:Nat)=>Value.int p 0).toArray nt))
  (hS:s.heap.get? S=some o) (hd:o.data=.set es ep t) (hf:t.fits es.size=true) (hp:pl[i]? = some p) (hx:es[p]? = some x)
  (hQ:∀h',h'.get? it=some (lU (.ref T) (i+1) S es.size ep)->Heap.SameBut it s.heap h'->Q (some x.2) { s with heap:=h' }):
  wpAny (model prog w) A (pyNext (.ref it)) Q E s:=by
 unfold pyNext;refine wX (wpAny_attempt (wpAny_callSpecial?_slot (name:=Str.ofString "__next__") (dX ho) bF
  (wpAny_call_entry bF (dX ho) fR ?_ (gE _))))
 show wpAny _ _ (fieldsOf (.ref it)>>=_) _ _ s;refine wX (wpAny_fieldsOf ho rfl ?_);show wpAny _ _ (setEntries S>>=_) _ _ s;refine wX (wpAny_setEntries_of hS hd hf ?_);rw[if_neg (by simp)];show wpAny _ _ (seqItems? (.ref T)>>=_) _ _ s;refine wX (wpAny_seqItems hT rfl ?_);have e1:(pl.map λ(p:Nat)=>Value.int p 0).toArray[(i:Int).toNat]? = some (.int p 0):=by simp[hp]
 dsimp only;rw[e1];dsimp only;have e2:wpAny (model prog w) A.in1 (setNextDrawn S (p:Int).toNat (ep:Int).toNat) (λy s'=>y=x.2/\s'=s) (λ_ _=>False) s:=by
  unfold setNextDrawn;refine wX (wpAny_setState_of hS hd hf ?_);dsimp only;rw[if_neg (by simp)];simp only[Int.toNat_natCast,hx];exact wY ⟨rfl,rfl⟩
 refine wX (wpAny_mono e2 (λy s' hy=>?_) λ_ _ z=>z.elim);obtain⟨rfl,rfl⟩:=hy;refine wX (wpAny_setField_rec ho (by simp) λh1 e1 b1=>?_);exact wY ⟨_,rfl,wY (hQ h1 (by simpa [rawInt,lU]using e1) b1)⟩
theorem t7 {T:Addr}{pl:List Nat}{nt:Nat}{Q:Option Value->Shared->Prop}(hh:A.handled=none)(ho:s.heap.get? it=some (lU (.ref T) i S es.size ep))
  (hT:s.heap.get? T=some (seqObj "tuple" (pl.map λ(p:Nat)=>Value.int p 0).toArray nt))
  (hS:s.heap.get? S=some o) (hd:o.data=.set es ep t) (hf:t.fits es.size=true) (hp:pl[i]? = none)
  (hQ:∀h',Heap.ExtBut it s.heap h'->Q none { s with heap:=h' }):
  wpAny (model prog w) A (pyNext (.ref it)) Q E s:=by
 unfold pyNext;refine wX (wpAny_attempt (wpAny_callSpecial?_slot (name:=Str.ofString "__next__") (dX ho) bF
  (wpAny_call_entry bF (dX ho) fR ?_ (gE _))))
 show wpAny _ _ (fieldsOf (.ref it)>>=_) _ _ s;refine wX (wpAny_fieldsOf ho rfl ?_);show wpAny _ _ (setEntries S>>=_) _ _ s;refine wX (wpAny_setEntries_of hS hd hf ?_);rw[if_neg (by simp)];show wpAny _ _ (seqItems? (.ref T)>>=_) _ _ s;refine wX (wpAny_seqItems hT rfl ?_);have e1:(pl.map λ(p:Nat)=>Value.int p 0).toArray[(i:Int).toNat]? = none:=by simpa using hp
 dsimp only;rw[e1];dsimp only;refine wX (wpAny_setField_rec ho (by simp) λh0 e0 b0=>?_);refine wX (wpAny_setField_rec e0 (by simp) λh1 e1 b1=>?_);refine wX ?_;simp only[newExc,newTuple];refine wX (wpAny_newObj_type ?_ (by size_fits));refine wX (m:=firstArgMember _ _) (wpAny_of_eq (a:=Value.none) (by first|rfl|(simp only[firstArgMember];rfl)) ?_);refine wpAny_newObj_type ?_ (by size_fits);simp only[raiseNew];refine wX (wpAny_handled ?_);rw[show A.in1.handled=none from hh];refine wX (wY (wpAny_throw ?_));refine wX (wpAny_isInstance (T:="StopIteration") (b:=true) ⟨_,vY _ rfl,rfl⟩ isSubtype_stop ?_);exact wY (hQ _ (((b0.trans b1).extBut.push _).push _))
theorem yD (ho:s.heap.get? it=some (lU fst i S n ep))(h:Q (.ref it) s):wpAny (model prog w) A (pyIter (.ref it)) Q E s:=by
 refine wpAny_pyIter_slot (dX ho) lD (wpAny_call_entry lD (dX ho) qq ?_ (tz _));show wpAny _ _ (ret (.ref it)) _ _ s;exact wY ⟨_,rfl,"set_iterator",_,dX ho,bF.lookup,h⟩
end
section
variable {prog:Program}{w:World}{A:Around}{E:Value->Shared->Prop}{s:Shared}{it S:Addr}{i k ep:Nat}{o:Obj}{es:Array (Int×Value)}{t:SetTable}
theorem ug (hS:s.heap.get? S=some o)(hd:o.data=.set es ep t)(hf:t.fits es.size=true)(hb:w.params.followText "set-order" = true)
  (h:Q (((pickOrder (w.params.setOrder S ep) es)[i]?).map λe=>(e.2,k)) s):wpAny (model prog w) A (setNext S k i ep) Q E s:=by
 unfold setNext;refine wX (wpAny_setState_of hS hd hf ?_);dsimp only;unfold setsByText;refine wX (wX (wpAny_askSetting (wY ?_)));show wpAny _ _ (if w.params.followText "set-order" = true then _ else _) _ _ _;rw[if_pos hb,if_neg (by simp)];unfold setWalk setsByText;refine wX (wX (wpAny_setState_of hS hd hf ?_));dsimp only;refine wX (wX (wpAny_askSetting (wY ?_)));show wpAny _ _ (if w.params.followText "set-order" = true then _ else _) _ _ _;rw[if_pos hb];refine wX (wpAny_askSetting (wY ?_));exact wY h
theorem qr (hS:s.heap.get? S=some o)(hd:o.data=.set es ep t)(hf:t.fits es.size=true)(hb:w.params.followText "set-order" = false)(hl:t.led=true)(hz:es.size<=1)
  (h:Q (match es[SetTable.below t.place k]?,t.place[SetTable.below t.place k]? with
   |some (_,x),some j=>some (x,j+1)
   |_,_=>none) s):wpAny (model prog w) A (setNext S k i ep) Q E s:=by
 unfold setNext;refine wX (wpAny_setState_of hS hd hf ?_);dsimp only;unfold setsByText;refine wX (wX (wpAny_askSetting (wY ?_)));show wpAny _ _ (if w.params.followText "set-order" = true then _ else _) _ _ _;rw[if_neg (by rw[hb];simp)];show wpAny _ _ (if(!t.plain && decide (es.size > 1))=true then _ else _) _ _ _;rw[if_neg (by rw[decide_eq_false (by omega)];simp)];show wpAny _ _ ((if(!t.led && !es.isEmpty)=true then unsupported "set:maker-not-led" else pure ())>>=_) _ _ _;rw[hl,if_neg (by simp)];refine wX (wY ?_);exact wY h
theorem uh (hh:A.handled=none)(hd:o.data=.set es ep t)(hf:t.fits es.size=true)(p0:S≠it)(vs:List Value)(hv:vs.length=es.size)(sl:Nat->Nat)
  (hN:∀i x,vs[i]? = some x->∀(A':Around)(E':Value->Shared->Prop)(s:Shared)(Q':Option (Value×Nat)->Shared->Prop),s.heap.get? S=some o->Q' (some (x,sl (i+1))) s->wpAny (model prog w) A' (setNext S (sl i) i ep) Q' E' s)
  (hE:∀(A':Around)(E':Value->Shared->Prop)(s:Shared)(Q':Option (Value×Nat)->Shared->Prop),s.heap.get? S=some o->Q' none s->wpAny (model prog w) A' (setNext S (sl es.size) es.size ep) Q' E' s):
  Walks prog w A it [it,S] [it] es.size (λi v=>vs[i]? = some v) (λi h=>h.get? it=some (lU (.int (sl i) 0) i S es.size ep)/\h.get? S=some o) where
 sub:=λb hb=>by simp at hb;simp[hb]
 frame:=λ_ _ _ st hk=>⟨hk it (by simp) _ st.1,hk S (by simp) _ st.2⟩
 item:=λi s Q E hi st hQ=>by
  obtain⟨x,hx⟩:∃x,vs[i]? = some x:=⟨_,vU (by omega)⟩;refine wJ st.1 st.2 hd hf (λA' E' Q' q=>hN i x hx A' E' s Q' st.2 q) λh' h1 h2=>?_;exact hQ x h' s.toks hx ⟨h1,h2.extBut S _ p0 st.2⟩ λb u hb e=>h2.extBut b u (λz=>hb (by simp[z])) e
 done:=λs Q E st hQ=>wK hh st.1 st.2 hd hf (λA' E' Q' q=>hE A' E' s Q' st.2 q) λh' h1=>hQ h' s.toks λb u hb e=>h1 b u (λz=>hb (by simp[z])) e
 self:=λ_ _ _ _ st hQ=>yD st.1 hQ
theorem AT {T:Addr}{pl:List Nat}{nt:Nat}(hh:A.handled=none)(hd:o.data=.set es ep t)(hf:t.fits es.size=true)(p0:S≠it)(YF:T≠it)(hp:pl.Perm (List.range es.size)):
  Walks prog w A it [it,S,T] [it] es.size (λi v=>(pl.map λp=>(es.getD p (0,.none)).2)[i]? = some v)
   (λi h=>h.get? it=some (lU (.ref T) i S es.size ep)/\h.get? S=some o/\h.get? T=some (seqObj "tuple" (pl.map λ(p:Nat)=>Value.int p 0).toArray nt)) where
 sub:=λb hb=>by simp at hb;simp[hb]
 frame:=λ_ _ _ st hk=>⟨hk it (by simp) _ st.1,hk S (by simp) _ st.2.1,hk T (by simp) _ st.2.2⟩
 item:=λi s Q E hi st hQ=>by
  have bK:pl.length=es.size:=by rw[hp.length_eq,List.length_range]
  obtain⟨p,hx⟩:∃p,pl[i]? = some p:=⟨_,vU (by omega)⟩;have OB:p<es.size:=List.mem_range.mp (hp.mem_iff.mp (vL hx));have he:es[p]? = some (es.getD p (0,.none)):=by rw[Array.getD_eq_getD_getElem?,Array.getElem?_eq_getElem OB];rfl
  refine t6 st.1 st.2.2 st.2.1 hd hf hx he λh' h1 h2=>?_;exact hQ _ h' s.toks (by simp[hx]) ⟨h1,h2.extBut S _ p0 st.2.1,h2.extBut T _ YF st.2.2⟩ λb u hb e=>h2.extBut b u (λz=>hb (by simp[z])) e
 done:=λs Q E st hQ=>by
  have bK:pl.length=es.size:=by rw[hp.length_eq,List.length_range]
  exact t7 hh st.1 st.2.2 st.2.1 hd hf (List.getElem?_eq_none (by omega)) λh' h1=>hQ h' s.toks λb u hb e=>h1 b u (λz=>hb (by simp[z])) e
 self:=λ_ _ _ _ st hQ=>yD st.1 hQ
end
theorem AU {α:Type}(es:Array α)(d:α):(List.range es.size).map (λp=>es.getD p d)=es.toList:=by
 apply List.ext_getElem?;intro i;by_cases h:i<es.size
 ·simp[h,Array.getD_eq_getD_getElem?]
 ·simp[h]
section
variable {prog:Program}{w:World}{A:Around}{E:Value->Shared->Prop}{s:Shared}
theorem ui (h:xs=#[j]):SetTable.below xs k=if j<k then 1 else 0:=by
 subst h;by_cases h:j<k
 ·simp[SetTable.below,SetTable.below.go,h]
 ·simp[SetTable.below,SetTable.below.go,h]
theorem Gk {S:Addr}{ts:List Str}{Q:Value->Shared->Prop}(hS:jf prog w s.heap S ts)
  (hQ:∀(h':Heap)(d:Drawn)(it:Addr)(vs:List Value)(fp:List Addr)(St:Nat->Heap->Prop),(∀A',A'.handled=none->Walks prog w A' it fp [it] ts.length (λi v=>vs[i]? = some v) St)->St 0 h' ->
   (∀b u,s.heap.get? b=some u->h'.get? b=some u)->s.heap.objs.size<=it->(∀b∈fp,b=S∨s.heap.objs.size<=b)->vs.length=ts.length->(vs.map strOf).Perm ts->(∀v∈vs,∃x t,v=.str x t) ->
   Q (.ref it) { s with heap:=h',drawn:=d }):wpAny (model prog w) A (pyIter (.ref S)) Q E s:=by
 obtain⟨o,es,ep,t,ho,KY,hd,ES,hp,nd,hb,hf,La,lL⟩:=hS;have sz:es.size=ts.length:=by rw[←hp.length_eq,vI,vG]
 have OC:S<s.heap.objs.size:=vX ho;have W6:s.TypeIs (.ref S) "set":=⟨_,ho,KY.1⟩;have HW:∀e∈es.toList,∃x t,e.2=.str x t:=λe he=>by
  obtain⟨⟨k,hk,_⟩,_⟩:=ES e he;obtain⟨t,q⟩:=Value.isStrOf_shape (show Value.isStrOf k e.2=true from hk);exact⟨k,t,q⟩
 refine wpAny_pyIter_slot W6 PySem.F.slot_set_iter (wpAny_call_entry PySem.F.slot_set_iter W6 pA ?_ (PySem.F.args_set_iter_1 _));show wpAny _ _ (Builtin.Frozenset.sizeOf S>>=_) _ _ s;unfold Builtin.Frozenset.sizeOf;refine wX (wX (wpAny_setEntries_of ho hd hf (wY ?_)));unfold setDrawn setsByText;refine wX (wX (wpAny_setState_of ho hd hf ?_));dsimp only;refine wX (wX (wpAny_askSetting (wY (wY ?_))));show wpAny _ _ (if(!w.params.followText "set-order" && (!t.plain && decide (es.size > 1)))=true then _ else _) _ _ _;have OD:(es.toList.map (·.2)).map strOf=es.toList.map (λe=>strOf e.2):=by rw[uP];rfl
 by_cases Mk:w.params.followText "set-order" = true
 ·rw[if_neg (by rw[Mk];simp)];refine wX (wY ?_);refine wX (wpAny_setEpoch_of ho hd hf ?_);have pp:=DP (w.params.setOrder S ep) es;have bK:((pickOrder (w.params.setOrder S ep) es).toList.map (·.2)).length=es.size:=by rw[vI,pp.length_eq,vG]
  refine wX (wpAny_newObj_type (wY ⟨_,rfl,"set_iterator",_,⟨_,vY _ rfl,rfl⟩,bF.lookup,?_⟩));refine hQ _ s.drawn s.heap.objs.size ((pickOrder (w.params.setOrder S ep) es).toList.map (·.2)) [s.heap.objs.size,S] (λi h=>h.get? s.heap.objs.size=some (lU (.int ((λ_=>0:Nat->Nat) i:Nat) 0) i S es.size ep)/\h.get? S=some o) (λA' hA=>?_) ?_ (λb u e=>vZ _ e) (vT _) (λb hb=>?_) (bK.trans sz) ?_ ?_
  ·rw[←sz];exact uh hA hd hf (vS OC) _ bK (λ_=>0) (λi x hx A' E' s Q' h1 h2=>ug h1 hd hf Mk (by
    rw[vA,Array.getElem?_toList]at hx;obtain⟨e,he,rfl⟩:=oY hx;rw[he];exact h2)) (λA' E' s Q' h1 h2=>ug h1 hd hf Mk (by
    rw[Array.getElem?_eq_none (by rw[←vG,pp.length_eq,vG];exact vT _)];exact h2))
  ·exact⟨vY _ rfl,vZ _ ho⟩
  ·simp only[List.mem_cons,List.not_mem_nil,or_false]at hb;rcases hb with rfl|rfl
   ·exact .inr (vT _)
   ·exact .inl rfl
  ·refine List.Perm.trans ?_ hp;rw[←OD];exact(pp.map _).map _
  ·intro v hv;obtain⟨e,he,rfl⟩:=vO hv;exact HW e (pp.mem_iff.mp he)
 ·rw[Bool.not_eq_true]at Mk;have hl:t.led=true:=by rw[La,Mk];rfl
  by_cases h1:es.size<=1
  ·rw[if_neg (by rw[decide_eq_false (by omega)];simp)];refine wX (wY ?_);refine wX (wpAny_setEpoch_of ho hd hf ?_);refine wX (wpAny_newObj_type (wY ⟨_,rfl,"set_iterator",_,⟨_,vY _ rfl,rfl⟩,bF.lookup,?_⟩));have hpz:t.place.size=es.size:=by
    simp only[SetTable.fits,vC,beq_iff_eq,decide_eq_true_eq]at hf;exact hf.1
   refine hQ _ s.drawn s.heap.objs.size (es.toList.map (·.2)) [s.heap.objs.size,S] (λi h=>h.get? s.heap.objs.size=some (lU (.int ((λi=>if i=0 then 0 else t.place.getD 0 0+1:Nat->Nat) i:Nat) 0) i S es.size ep)/\h.get? S=some o) (λA' hA=>?_) ?_ (λb u e=>vZ _ e) (vT _) (λb hb=>?_) (by rw[vI,vG,sz]) (by rw[OD];exact hp) ?_
   ·rw[←sz];refine uh hA hd hf (vS OC) _ (by simp) (λi=>if i=0 then 0 else t.place.getD 0 0+1) (λi x hx A' E' s Q' q1 q2=>qr q1 hd hf Mk hl h1 ?_) (λA' E' s Q' q1 q2=>qr q1 hd hf Mk hl h1 ?_)
    ·have hi:i<es.size:=by have:=(vV hx).1;simpa using this
     have YG:i=0:=by omega
     subst YG;obtain⟨j,hj⟩:∃j,t.place=#[j]:=Array.size_eq_one_iff.mp (by omega);rw[if_pos rfl,ui hj,if_neg (by omega)];rw[vA,Array.getElem?_toList]at hx;obtain⟨e,he,rfl⟩:=oY hx;rw[he];simp only[hj]at q2 ⊢;simpa using q2
    ·by_cases h0:es.size=0
     ·have UL:t.place=#[]:=Array.eq_empty_of_size_eq_zero (by omega);have YH:es=#[]:=Array.eq_empty_of_size_eq_zero h0;rw[UL,YH];simpa using q2
     ·obtain⟨j,hj⟩:∃j,t.place=#[j]:=Array.size_eq_one_iff.mp (by omega);rw[if_neg h0,ui hj];have:t.place.getD 0 0=j:=by rw[hj];rfl
      rw[this,if_pos (by omega),Array.getElem?_eq_none (by omega)];exact q2
   ·exact⟨vY _ rfl,vZ _ ho⟩
   ·simp only[List.mem_cons,List.not_mem_nil,or_false]at hb;rcases hb with rfl|rfl
    ·exact .inr (vT _)
    ·exact .inl rfl
   ·intro v hv;obtain⟨e,he,rfl⟩:=vO hv;exact HW e he
  ·have UL:t.plain=false:=lL (by omega);rw[if_pos (by rw[Mk,UL,decide_eq_true (by omega)];rfl)];refine wX (Ca es.size (List.range es.size) _ _ (by simp) λpl d pp=>?_);refine wX (wpAny_newTuple ?_ (by rw[vI,pp.length_eq,List.length_range,sz];exact fits_of_scanBound hb));refine wX (wpAny_setEpoch_of (vZ _ ho) hd hf ?_);refine wX (wpAny_newObj_type (wY ⟨_,rfl,"set_iterator",_,⟨_,vY _ rfl,rfl⟩,bF.lookup,?_⟩));have hsz:(s.heap.push (seqObj "tuple" (pl.map λ(p:Nat)=>Value.int p 0).toArray 0)).objs.size=s.heap.objs.size+1:=size_push' _ _;have gU:((pl.map λp=>(es.getD p (0,.none)).2)).Perm (es.toList.map (·.2)):=by
    have:=(pp.map λp=>es.getD p (0,Value.none)).map (·.2);rw[AU]at this;rw[uP]at this;exact this
   refine hQ _ d _ (pl.map λp=>(es.getD p (0,.none)).2) [(s.heap.push (seqObj "tuple" (pl.map λ(p:Nat)=>Value.int p 0).toArray 0)).objs.size,S,s.heap.objs.size] (λi h=>h.get? (s.heap.push (seqObj "tuple" (pl.map λ(p:Nat)=>Value.int p 0).toArray 0)).objs.size=some (lU (.ref s.heap.objs.size) i S es.size ep)/\h.get? S=some o/\h.get? s.heap.objs.size=some (seqObj "tuple" (pl.map λ(p:Nat)=>Value.int p 0).toArray 0)) (λA' hA=>?_) ?_ (λb u e=>vZ _ (vZ _ e)) ?_ (λb hb=>?_) ?_ ?_ ?_
   ·rw[←sz];exact AT (nt:=0) hA hd hf (by show S≠(s.heap.push _).objs.size;rw[size_push'];exact vS (Nat.lt_succ_of_lt OC)) (by show s.heap.objs.size≠(s.heap.push _).objs.size;rw[size_push'];exact vS (Nat.lt_succ_self _)) pp
   ·exact⟨vY _ rfl,vZ _ (vZ _ ho),vZ _ (vY _ rfl)⟩
   ·show s.heap.objs.size<=(s.heap.push _).objs.size;rw[size_push'];omega
   ·simp only[List.mem_cons,List.not_mem_nil,or_false]at hb;rcases hb with rfl|rfl|rfl
    ·refine .inr ?_;show s.heap.objs.size<=(s.heap.push _).objs.size;rw[size_push'];omega
    ·exact .inl rfl
    ·exact .inr (vT _)
   ·rw[gU.length_eq,vI,vG,sz]
   ·exact((gU.map strOf).trans (by rw[OD])).trans hp
   ·intro v hv;obtain⟨e,he,rfl⟩:=vO (gU.mem_iff.mp hv);exact HW e he
end
theorem DQ (h:ItemsOf (λi v=>vs[i]? = some v) mn vs.length):mn.toList=vs:=by
 apply List.ext_getElem?;intro i;by_cases hi:i<mn.size
 ·have e:mn[i]? = some mn[i]:=Array.getElem?_eq_getElem hi;rw[Array.getElem?_toList,e,h.2 i _ e]
 ·rw[List.getElem?_eq_none (by rw[vG];omega),List.getElem?_eq_none (by rw[←h.1];omega)]
section
variable {prog:Program}{w:World}{A:Around}{E:Value->Shared->Prop}{s:Shared}
theorem yE (hh:A.handled=none)(hS:jf prog w s.heap S ts)
  (hQ:∀s' vs,(∀b u,s.heap.get? b=some u->s'.heap.get? b=some u)->s'.gens=s.gens->s'.os=s.os->vs.length=ts.length->(vs.map strOf).Perm ts->(∀v∈vs,∃x t,v=.str x t)->Q vs s'):
  wpAny (model prog w) A (collect (.ref S)) Q E s:=by
 have Mf:∀(s1:Shared),jf prog w s1.heap S ts->s1.TypeIs (.ref S) "set":=λs1 h=>by
  obtain⟨o,_,_,_,ho,KY,_⟩:=h;exact⟨o,ho,KY.1⟩
 have fN:S<s.heap.objs.size:=by obtain⟨o,_,_,_,ho,_⟩:=hS;exact vX ho
 have RD:ts.length<scanBound:=by obtain⟨_,_,_,_,_,_,_,_,_,_,h,_⟩:=hS;exact h
 unfold collect;refine wX (wpAny_runValue (codeAny_builtin PySem.F.entry_proto_collect ?_));rw[Around.under_plainId PySem.F.plain_proto_collect _];show wpAny _ A.in1 (newList []>>=λl=>again (.builtin "list.__iadd__" ⟨[l,.ref S],[]⟩)) _ _ s;refine wX (wpAny_newObj_type ?_);refine wY ⟨plainId_quiet PySem.F.plain_list_iadd _,codeAny_builtin PySem.F.entry_list_iadd ?_⟩;rw[Around.under_plainId PySem.F.plain_list_iadd _];show wpAny _ A.in1 (Builtin.List.listExtendWith (.ref s.heap.objs.size) (.ref S) (.ref s.heap.objs.size)) _ _ _;unfold Builtin.List.listExtendWith;have UM:jf prog w (s.heap.push { cls:=.type "list",data:=.seq ([]:List Value).toArray }) S ts:=hS.at λo e=>vZ _ e;refine wX (wpAny_typeOf (Mf _ UM) ?_);have EU:s.heap.objs.size≠S:=Nat.ne_of_gt fN;have h1:Builtin.List.listSameRef (.ref s.heap.objs.size) (.ref S)=false:=by simp[Builtin.List.listSameRef,EU]
 have h2:(Value.type "set" == Value.type "list")=false:=by decide
 have h3:(Value.type "set" == Value.type "tuple")=false:=by decide
 simp only[h1,h2,h3,Bool.or_false,uV,if_false];refine wX (Gk (s:={ s with heap:=s.heap.push { cls:=.type "list",data:=.seq ([]:List Value).toArray } }) UM λh' d it vs fp St W jW hk EV hfp Aa gU HQ=>?_);have RB:jf prog w h' S ts:=UM.at λo e=>hk _ _ e;refine wX (wpAny_holding ?_);unfold Builtin.List.listLengthHint;refine wX (wpAny_specialOf (Mf _ RB) PySem.F.slot_set_len.lookup ?_);wp_delta;refine wX (wpAny_isInstance (Mf _ RB) sub_set_self ?_);show wpAny _ A.in1 (typeOf (Value.ref S)>>=_) _ _ _;refine wX (wpAny_typeOf (Mf _ RB) ?_);refine wY ?_;rw[if_pos (by decide)];refine wX (wpAny_rule ?_);refine wX ?_;have RE:(s.heap.push { cls:=.type "list",data:=.seq ([]:List Value).toArray }).objs.size=s.heap.objs.size+1:=size_push' _ _;have W7:h'.get? s.heap.objs.size=some { cls:=.type "list",data:=.seq ([]:List Value).toArray }:=hk _ _ (vY _ rfl);show wpAny _ A.in1 (updateSeq s.heap.objs.size (·.push .none)>>=λ_=>updateSeq s.heap.objs.size (·.pop)) _ _ _;refine wX (wpAny_updateSeq W7 rfl ?_);have W8:=Heap.get?_update_self (Obj.mapSeq (·.push Value.none)) W7 rfl;refine wpAny_updateSeq W8 rfl ?_;have YI:=Heap.get?_update_self (Obj.mapSeq (·.pop)) W8 rfl;have O7:s.heap.objs.size∉fp:=λhm=>by
  rcases hfp _ hm with z|z
  ·exact EU z
  ·rw[RE]at z;exact absurd z (Nat.not_succ_le_self _)
 have W9:∀b u,b≠s.heap.objs.size->h'.get? b=some u ->
   ((h'.update s.heap.objs.size (Obj.mapSeq (·.push Value.none))).update s.heap.objs.size (Obj.mapSeq (·.pop))).get? b=some u :=
  λb u hb e=>(Heap.get?_update_other _ _ (Ne.symm hb)).trans ((Heap.get?_update_other _ _ (Ne.symm hb)).trans e)
 have W0:=W A.in1 hh;refine wY ⟨plainId_quiet PySem.F.plain_extend_loop _,codeAny_extend_loopS W0.toS (fits_of_scanBound RD) _ O7 _ ts.length 0 _ _ _ rfl (uN _)
  (W0.frame 0 _ _ jW λb hb u e=>W9 b u (λz=>O7 (z ▸ hb)) e) YI (ItemsOf.nil _) λs' acc' c' hm hL' HX=>?_⟩
 show wpAny _ A (load s.heap.objs.size>>=_) _ _ s';refine wX (wpAny_load hL' ?_);rw[←Aa]at HX;refine wY ?_;show Q acc'.toList s';rw[DQ HX];refine hQ s' vs (λb u e=>hm.heap b u (λhb=>?_) (W9 b u (vS (vX e)) (hk _ _ (vZ _ e)))) hm.gens hm.os Aa gU HQ;have hl:=vX e;simp only[List.mem_cons,List.not_mem_nil,or_false]at hb;rcases hb with rfl|rfl
 ·exact absurd hl (Nat.lt_irrefl _)
 ·rw[RE]at EV;exact absurd (vQ hl (Nat.le_of_succ_le EV)) (Nat.lt_irrefl _)
theorem AV (hh:A.handled=none)(hS:jf prog w s.heap S ts)(vx:ts.length<64)
  (hQ:∀(s1:Shared)(h':Heap)(a:Addr)(out:Array Value)(n:Nat)(Ml:List Str),(∀b u,s.heap.get? b=some u->s1.heap.get? b=some u)->s1.os=s.os->s1.gens=s.gens->(∀b u,s1.heap.get? b=some u->h'.get? b=some u)->s1.heap.objs.size<=a->h'.get? a=some (seqObj "list" out n) ->
   StrsAre out.toList Ml->Ml.Perm ts->sortedS Ml=true->Q (.ref a) { s1 with heap:=h' }):
  wpAny (model prog w) A (call (.builtin "sorted") [.ref S]) Q E s:=by
 refine Calls.call_function_entry kind_sorted plain_sorted entry_sorted (args_sorted1 _) ?_;unfold Builtin.«sorted»;refine wX (m:=checkCount "sorted" 1 1 _) (wY ?_);refine wX (yE (A:=A.in1) (by exact hh) hS λs1 vs hk hg KO Aa gU HQ=>?_);have jW:StrsAre vs (vs.map strOf):=strsAre_map vs HQ;refine wX (wpAny_newList ?_ (by rw[Aa,sizeLine_eq];omega));have EQ:(s1.heap.push (seqObj "list" vs.toArray 0)).get? s1.heap.objs.size=some (seqObj "list" vs.toArray 0):=vY _ rfl;show wpAny _ _ _ _ _ { s1 with heap:=s1.heap.push (seqObj "list" vs.toArray 0) };refine wX (wpAny_holding (wpAny_call_entry slot_list_sort ⟨_,EQ,rfl⟩ entry_list_sort (list_sort_treeK strKind_oneLt EQ jW.keysOf (λv₁ v₂ aF e=>keyKind_strs (by rw[←e];exact jW)) (by rw[Aa];exact vx) λjm a1 a2=>⟨_,rfl,?_⟩) (args_list_sort _)));obtain⟨Ml,b1,b2,b3⟩:=sorted_out_str jW a1 a2;obtain⟨e,he⟩:=sortedHeap_at (out:=(arrOf jm).map (·.2)) EQ;refine wY ⟨_,rfl,hQ s1 _ _ _ e Ml hk KO hg (λb u q=>?_) (vT _) he b1 (b2.trans gU) b3⟩;have hl:=vX q;rw[sortedHeap_old (vS hl) (by rw[size_push'];exact Nat.lt_succ_of_lt hl)];exact vZ _ q
end
end DL
namespace DL
open PySem PySem.Spec PyProof.Rows L2
def wL (a b:Str):Prop:=¬b.cps.toList<a.cps.toList
theorem Cc:ltCps b.cps.toList a.cps.toList=false↔wL a b:=by rw[ltCps_eq,decide_eq_false_iff_not];rfl
theorem uj (h:wL a b)(k:wL b c):wL a c:=by
 unfold wL at *;exact List.not_lt.mpr (List.le_trans (List.not_lt.mp h) (List.not_lt.mp k))
theorem Gm (h:wL a b)(k:wL b a):a=b:=by
 have e:a.cps.toList=b.cps.toList:=List.le_antisymm (List.not_lt.mp h) (List.not_lt.mp k);obtain⟨a⟩:=a;obtain⟨b⟩:=b;have:a=b:=Array.toList_inj.mp e;rw[this]
noncomputable def AW (x:Str):List Str->List Str
 |[]=>[x]
 |y::r=>if ltCps y.cps.toList x.cps.toList then y::AW x r else x::y::r
noncomputable def kE (l:List Str):List Str:=l.foldr AW []
theorem nX (x:Str):∀l,(AW x l).Perm (x::l)
 |[]=>List.Perm.refl _
 |y::r=>by
  unfold AW;split
  ·exact((nX x r).cons y).trans (List.Perm.swap x y r)
  ·exact List.Perm.refl _
theorem fw:∀l,(kE l).Perm l
 |[]=>List.Perm.refl _
 |x::l=>(nX x (kE l)).trans ((fw l).cons x)
theorem ul (x:Str):∀l,l.Pairwise wL->(AW x l).Pairwise wL
 |[],_=>by simp[AW]
 |y::r,h=>by
  obtain⟨h1,h2⟩:=List.pairwise_cons.mp h;unfold AW;split
  ·rename_i hl;refine List.pairwise_cons.mpr ⟨λz hz=>?_,ul x r h2⟩;rcases vP ((nX x r).mem_iff.mp hz)with rfl|hz
   ·rw[ltCps_eq,decide_eq_true_eq]at hl;exact λk=>List.lt_irrefl _ (List.lt_trans hl k)
   ·exact h1 z hz
  ·rename_i hl;rw[Bool.not_eq_true]at hl;have Pw:wL x y:=Cc.mp hl;refine List.pairwise_cons.mpr ⟨λz hz=>?_,h⟩;rcases vP hz with rfl|hz
   ·exact Pw
   ·exact uj Pw (h1 z hz)
theorem qt:∀l,(kE l).Pairwise wL
 |[]=>List.Pairwise.nil
 |x::l=>ul x _ (qt l)
theorem oK:∀(l:List Str)(p:Str),risingS p l=true->(p::l).Pairwise wL
 |[],p,_=>List.pairwise_singleton _ _
 |x::r,p,h=>by
  have h':(!ltCps x.cps.toList p.cps.toList && risingS x r)=true:=h;rw[vC]at h';have WA:wL p x:=Cc.mp (by simpa using h'.1);have ih:=oK r x h'.2;refine List.pairwise_cons.mpr ⟨λz hz=>?_,ih⟩;rcases vP hz with rfl|hz
  ·exact WA
  ·exact uj WA ((List.pairwise_cons.mp ih).1 z hz)
theorem yF:∀(l:List Str),sortedS l=true->l.Pairwise wL
 |[],_=>List.Pairwise.nil
 |x::r,h=>oK r x h
theorem yG (a:Str):wL a a:=List.lt_irrefl _
theorem qu:∀(l1 l2:List Str),l1.Perm l2->l1.Pairwise wL->l2.Pairwise wL->l1=l2
 |[],l2,p,_,_=>(List.nil_perm.mp p).symm
 |x::r1,[],p,_,_=>absurd p.length_eq (by simp)
 |x::r1,y::r2,p,h1,h2=>by
  have Pw:wL x y:=by
   rcases vP (p.mem_iff.mpr (mX ..))with z|z
   ·rw[z];exact yG _
   ·exact(List.pairwise_cons.mp h1).1 y z
  have UN:wL y x:=by
   rcases vP (p.mem_iff.mp (mX ..))with z|z
   ·rw[z];exact yG _
   ·exact(List.pairwise_cons.mp h2).1 x z
  have e:=Gm Pw UN;subst e;rw[qu r1 r2 (List.Perm.cons_inv p) (List.pairwise_cons.mp h1).2 (List.pairwise_cons.mp h2).2]
theorem um (p:l'.Perm l)(h:sortedS l'=true):l'=kE l:=qu _ _ (p.trans (fw l).symm) (yF _ h) (qt l)
section
variable {X:Cx}
noncomputable def Gn (X:Cx)(S:Addr)(ts:List Str):HO:=.ext λh=>jf X.prog X.w h S ts
theorem uo (I:Inv X ae σ H s)(k:∀b u,s.heap.get? b=some u->s1.heap.get? b=some u)(ho:s1.os=s.os)(hg:s1.gens=s.gens):Inv X ae σ H s1:=by
 have I1:=I.step (g':=s.gens) (d':=s1.drawn) (t':=s1.toks) (h':=s1.heap) (H':=H) (ch:=[]) (λ_ z=>nomatch z) (λb o _ _ _ e _=>k b o e) (λb o _ _ _ e _=>⟨o.slots,k b o e⟩) (λ_ _ _ _ n=>n)
  (λb o _ e=>⟨o,k b o e⟩) (λ_ _ e=>e) (λ_ _ _ e=>e) (λ_ _ e=>e) (λm hm=>?_) (I.hok.kept k) I.bare
 ·obtain⟨h1,g1,d1,t1,o1⟩:=s1;cases ho;cases hg
  exact I1
 ·obtain⟨o,es,ep,ho,r⟩:=hm;exact⟨o,es,ep,k _ o ho,r⟩
theorem yH (hc:X.calm=true):bT X (.type "set") (λxs H Q=>∃p ys ss,xs=[.ref p]/\iP X.K H p ys/\(∀its,aX ys its->StrsAre its ss)/\ss.length<4000/\∀S,H S=none->Q (.ref S) (upd H S (Gn X S (iR ss)))):=by
 intro ae s σ H xs us Q I r h;obtain⟨p,ys,ss,rfl,hq,hs,vx,q⟩:=h;obtain⟨u,rfl,rx⟩:=gZ r;cases rx
 obtain⟨its,r',pl,hz⟩:=I.list hq;have jW:=hs its r';have bK:its.length=ss.length:=by rw[←jW.strs,vI]
 refine qp (I.ok.hd hc) pl.isList (by simpa using jW) (by simp only[vH];unfold scanBound;omega) λh' tk hS hk=>?_;refine⟨.ref s.heap.objs.size,_,I.laid (t':=tk) (λb u e=>hk b u (vX e) e) (vT _) ?_,rfl,q _ (I.hok.fresh (vT _))⟩;refine⟨hS,?_,λh1 h2 z k=>z.at k⟩;obtain⟨o,_,_,_,ho,_⟩:=hS;exact⟨o,ho⟩
theorem pB (hc:X.calm=true):bT X (.builtin "sorted") (λxs H Q=>∃S ts,xs=[.ref S]/\H S=some (Gn X S ts)/\ts.length<64/\∀l,H l=none->Q (.ref l) (upd H l (.lst ((kE ts).map .str)))):=by
 intro ae s σ H xs us Q I r h;obtain⟨S,ts,rfl,hS,vx,q⟩:=h;obtain⟨u,rfl,rx⟩:=gZ r;cases rx
 have hT:jf X.prog X.w s.heap S ts:=(I.hok S _ hS).1;refine AV (I.ok.hd hc) hT vx λs1 h' a out n Ml k1 ho hg k2 hp he jW gU sV=>?_;have e:=um gU sV;subst e;have I1:=uo I k1 ho hg;have hv:∀ {its:List Value}{zs:List Str},StrsAre its zs->aX (zs.map V.str) its:=λz=>by
  induction z with
  |nil=>exact .nil
  |cons x t _ ih=>exact .cons ⟨t,rfl⟩ ih
 refine⟨.ref a,_,I1.laid (t':=s1.toks) k2 hp (show bR X.prog X.w _ h' _ (.lst _)from ⟨?_,out.toList,n,hv jW,he⟩),rfl,q _ (I1.hok.fresh hp)⟩;rw[vI,(fw ts).length_eq,sizeLine_eq];omega
end
@[simp] def gK:D->Option (D×Bool)
 |.lst ds=>(ga ds).bind λss=>if ss.length<64 then some (.lst ((kE (iR ss)).map .str),true)else none
 |_=>none
@[simp] def Sz:D->Option (D×Bool)
 |.lst ds=>(ga ds).bind λss=>if ss.length<4000 then some (.int ((iR ss).length:Nat),false)else none
 |_=>none
theorem mE:bootBuiltins "sorted" = some (.builtin "sorted"):=by decide +kernel
theorem QM:bootBuiltins "set" = some (.type "set"):=by decide +kernel
theorem mF {K:PySem.W.Frag}{N:Hp}:∀(zs:List Str),IsL K N (zs.map V.str) (zs.map D.str)
 |[]=>.nil
 |z::zs=>.cons (.str z) (mF zs)
section
variable {X:Cx}{e:Expr}{pos pos2 p p2:Pos}
theorem qw (hc:X.calm=true)(m1:X.mg "sorted" = none)(m2:X.mg "set" = none)(he:JE X e f)(g1:Gl X "sorted":=by rfl)(g2:Gl X "set":=by rfl)
  (h1:starEach [e] X.env=(false,eval e X.env)::starEach [] X.env:=by rfl):JE X (.Call (.Name "sorted" p) [.Call (.Name "set" p2) [e] [] pos2] [] pos) (f1 gK f):=by
 refine PE.to (xS (pB hc) g1 m1 mE (iT (tQ (yH hc) g2 m2 QM (iT he kx h1) (he:=h1)) kx)) λσ H Q q=>?_;obtain⟨B,ρ,d',bb,sB,r,ee,q⟩:=q;obtain⟨x1,ex,ee⟩:=oX ee;refine⟨B,ρ,x1.1,x1.2,sB,r,ex,λv H1 N1 xt i1 fr=>?_⟩;obtain⟨xd,xb⟩:=x1;cases i1<;>try (simp[gK]at ee;done)
 rename_i l0 vs ds h hl;simp only[gK]at ee;obtain⟨ss,ez,ee⟩:=oX ee;split at ee
 ·rename_i vx;cases ee
  refine⟨_,_,ss,rfl,xt.nh.seq h,λits r'=>jx r' hl ez,by omega,λS hS=>⟨S,_,rfl,aG,Nat.lt_of_le_of_lt (qo ss) vx,λl EE=>?_⟩⟩;have x2:=Ext.laid (o:=Gn X S (iR ss)) xt.nh hS;have x3:=Ext.laid (o:=.lst ((kE (iR ss)).map V.str)) x2.nh EE;have YK:H l=none:=((xt.trans x2).hh).free EE;exact q _ _ _ ((xt.trans x2).trans x3) (.lst (iP.of aG) (mF _)) λ_=>⟨_,_,_,rfl,rfl,YK,aG,mF _⟩
 ·cases ee
end
end DL
namespace DL
open PySem PySem.Spec PySem.W PyProof.Rows
inductive Run (n:Nat)(lt:Nat->Nat->Bool){α:Type}:KasT α->α->Prop where
 |ret (a:α):Run n lt (.ret a) a
 |ask {i j:Nat}{k:Bool->KasT α}{a:α}(hi:i<n) (hj:j<n) (h:Run n lt (k (lt i j)) a):Run n lt (.ask i j k) a
theorem Run.bind {n:Nat}{lt:Nat->Nat->Bool}{α β:Type}{t:KasT α}{f:α->KasT β}{a:α}{b:β}(h:Run n lt t a)(k:Run n lt (f a) b):Run n lt (t.bind f) b:=by
 induction h with
 |ret a=>exact k
 |ask hi hj _ ih=>exact .ask hi hj (ih k)
theorem Run.wp {n:Nat}{lt:Nat->Nat->Bool}{α:Type}{WB:Nat->Nat->(Bool->Shared->Prop)->Shared->Prop}{Q:α->Shared->Prop}{t:KasT α}{a:α}(J:Shared->Prop)
  (hc:∀i j C s,i<n->j<n->J s->(∀s',J s'->C (lt i j) s')->WB i j C s) (h:Run n lt t a):∀ {s:Shared},J s->(∀s',J s'->Q a s')->t.kasWp WB Q s:=by
 induction h with
 |ret a=>intro s hJ hQ;exact hQ s hJ
 |ask hi hj _ ih=>intro s hJ hQ;exact hc _ _ _ _ hi hj hJ λs' hJ'=>ih hJ' hQ
section
variable {n:Nat}{rk:Nat->Int}
noncomputable abbrev qx (rk:Nat->Int)(i j:Nat):Bool:=decide (rk i<rk j)
noncomputable def c7 (rk:Nat->Int)(p:Array Nat)(k:Nat):Int:=rk (p.getD k 0)
structure nM (n:Nat)(p:Array Nat):Prop where
 size:p.size=n
 perm:p.toList.Perm (List.range n)
theorem nM.lt {p:Array Nat}(h:nM n p){k:Nat}(hk:k<n):p.getD k 0<n:=by
 have fP:k<p.size:=by rw[h.size];exact hk
 have:p.getD k 0=p[k]:=by rw[Array.getD_eq_getD_getElem?,Array.getElem?_eq_getElem fP];rfl
 rw[this];exact List.mem_range.mp (h.perm.mem_iff.mp (by simp))
theorem nM.rev {p:Array Nat}(h:nM n p)(i j:Nat):nM n (kas_rev p i j) :=
 ⟨(mirror_size _ _ _ _).trans h.size,(Array.perm_iff_toList_perm.mp (mirror_perm p i j _)).trans h.perm⟩
theorem nM.bub {p:Array Nat}(h:nM n p)(k d:Nat):nM n (bubble p k d) :=
 ⟨(bubble_size _ _ _).trans h.size,(Array.perm_iff_toList_perm.mp (bubble_perm p k d)).trans h.perm⟩
theorem wM {p:Array Nat}{i j:Nat}(hj:j<=p.size)(k:Nat):c7 rk (kas_rev p i j) k=if i<=k/\k<j then c7 rk p (i+j - 1 - k)else c7 rk p k:=by
 unfold c7 kas_rev;rw[Array.getD_eq_getD_getElem?,getElem?_mirror_all hj];split<;>rw[Array.getD_eq_getD_getElem?]
theorem Go {p:Array Nat}{src d:Nat}(hs:src<p.size)(hd:d<=src)(k:Nat):c7 rk (bubble p src d) k=if k=src - d then c7 rk p src else if src - d<k/\k<=src then c7 rk p (k - 1)else c7 rk p k:=by
 unfold c7;simp only[Array.getD_eq_getD_getElem?];rw[getElem?_bubble hs d hd];repeat' split
 all_goals rfl
def Up (rk:Nat->Int)(p:Array Nat)(m:Nat):Prop:=∀i j,i<=j->j<m->c7 rk p i<=c7 rk p j
def wN (rk:Nat->Int)(p:Array Nat)(m:Nat):Prop:=∀i j,i<=j->j<m->c7 rk p j<=c7 rk p i
theorem NO (p:Array Nat):Up rk p 1:=λi j h1 h2=>by
 have:i=j:=by omega
 subst this;exact Int.le_refl _
theorem wO {p:Array Nat}(h:nM n p){r:Nat}(hr:r<=n):∀(f m:Nat),r - m=f->1<=m->m<=r->Up rk p m->∃m',Run n (qx rk) (kas_asc p f m) m'/\m<=m'/\m'<=r/\Up rk p m'/\(m'<r->c7 rk p m'<c7 rk p (m' - 1))
 |0,m,hf,h1,hm,hu=>⟨m,.ret m,vT _,hm,hu,λz=>by omega⟩
 |f+1,m,hf,h1,hm,hu=>by
  have a1:=h.lt (k:=m) (by omega);have a2:=h.lt (k:=m - 1) (by omega);by_cases hc:c7 rk p m<c7 rk p (m - 1)
  ·refine⟨m,.ask a1 a2 ?_,vT _,hm,hu,λ_=>hc⟩;have:qx rk (p.getD m 0) (p.getD (m - 1) 0)=true:=decide_eq_true hc;rw[this,if_pos rfl];exact .ret m
  ·have Iz:Up rk p (m+1):=λi j Ad hj=>by
    by_cases e:j=m
    ·subst e;by_cases e2:i=j
     ·subst e2;exact Int.le_refl _
     ·have:=hu i (j - 1) (by omega) (by omega);omega
    ·exact hu i j Ad (by omega)
   obtain⟨m',q1,q2,q3,q4,q5⟩:=wO h hr f (m+1) (by omega) (by omega) (by omega) Iz;refine⟨m',.ask a1 a2 ?_,by omega,q3,q4,q5⟩;have:qx rk (p.getD m 0) (p.getD (m - 1) 0)=false:=decide_eq_false hc;rw[this,if_neg uX];exact q1
def JG (rk:Nat->Int)(p:Array Nat)(m q:Nat):Prop:=q+1<=m/\∀k,m - (q+1)<=k->k<m->c7 rk p k=c7 rk p (m - 1)
theorem yI {p:Array Nat}{m q:Nat}(hs:m<=p.size)(hf:JG rk p m q)(k:Nat):c7 rk (kas_rev p (m - (q+1)) m) k=c7 rk p k:=by
 rw[wM hs];split
 ·rename_i hk;have h0:=hf.1;rw[hf.2 k hk.1 hk.2,hf.2 _ (by omega) (by omega)]
 ·rfl
theorem Ce {p p':Array Nat}{m:Nat}(e:∀k,c7 rk p' k=c7 rk p k)(h:wN rk p m):wN rk p' m:=λi j h1 h2=>by rw[e,e];exact h i j h1 h2
theorem qy (p:Array Nat){m:Nat}(h:1<=m):JG rk p m 0:=⟨h,λk h1 h2=>by
 have:k=m - 1:=by omega
 rw[this]⟩
theorem mG {r:Nat}(hr:r<=n):∀(f:Nat)(p:Array Nat)(m q:Nat),nM n p->r - m=f->1<=m->m<=r->wN rk p m->JG rk p m q->∃p' m' q',Run n (qx rk) (kas_desc f p m q) (p',m',q')/\nM n p'/\m<=m'/\m'<=r/\wN rk p' m'/\JG rk p' m' q'
 |0,p,m,q,h,hf,h1,hm,hd,hq=>⟨p,m,q,.ret _,h,vT _,hm,hd,hq⟩
 |f+1,p,m,q,h,hf,h1,hm,hd,hq=>by
  have a1:=h.lt (k:=m) (by omega);have a2:=h.lt (k:=m - 1) (by omega);have step:∀p':Array Nat,(∀k,c7 rk p' k=c7 rk p k)->c7 rk p m<=c7 rk p (m - 1)->wN rk p' (m+1):=λp' e Ix i j Ad hj=>by
   rw[e,e];by_cases z:j=m
   ·subst z;by_cases z2:i=j
    ·subst z2;exact Int.le_refl _
    ·have:=hd i (j - 1) (by omega) (by omega);omega
   ·exact hd i j Ad (by omega)
  by_cases hc:c7 rk p m<c7 rk p (m - 1)
  ·have sP:qx rk (p.getD m 0) (p.getD (m - 1) 0)=true:=decide_eq_true hc;by_cases hq0:q > 0
   ·have e:=yI (p:=p) (by rw[h.size];omega) hq;obtain⟨p',m',q',g1,g2,g3,g4,g5,g6⟩:=mG hr f (kas_rev p (m - (q+1)) m) (m+1) 0 (h.rev _ _) (by omega) (by omega) (by omega) (step _ e (by omega)) (qy _ (by omega));refine⟨p',m',q',.ask a1 a2 ?_,g2,by omega,g4,g5,g6⟩;rw[sP,if_pos rfl,if_pos hq0];exact g1
   ·obtain⟨p',m',q',g1,g2,g3,g4,g5,g6⟩:=mG hr f p (m+1) 0 h (by omega) (by omega) (by omega) (step _ (λ_=>rfl) (by omega)) (qy _ (by omega));refine⟨p',m',q',.ask a1 a2 ?_,g2,by omega,g4,g5,g6⟩;rw[sP,if_pos rfl,if_neg hq0];exact g1
  ·have sP:qx rk (p.getD m 0) (p.getD (m - 1) 0)=false:=decide_eq_false hc;by_cases vw:c7 rk p (m - 1)<c7 rk p m
   ·have OE:qx rk (p.getD (m - 1) 0) (p.getD m 0)=true:=decide_eq_true vw;refine⟨p,m,q,.ask a1 a2 ?_,h,vT _,hm,hd,hq⟩;rw[sP,if_neg uX];refine .ask a2 a1 ?_;rw[OE,if_pos rfl];exact .ret _
   ·have OE:qx rk (p.getD (m - 1) 0) (p.getD m 0)=false:=decide_eq_false vw;have he:c7 rk p m=c7 rk p (m - 1):=by omega
    obtain⟨p',m',q',g1,g2,g3,g4,g5,g6⟩:=mG hr f p (m+1) (q+1) h (by omega) (by omega) (by omega) (step _ (λ_=>rfl) (by omega)) ⟨by have:=hq.1;omega,λk k1 k2=>by
     rw[Nat.add_sub_cancel];by_cases z:k=m
     ·rw[z]
     ·rw[hq.2 k (by omega) (by omega),he]⟩
    refine⟨p',m',q',.ask a1 a2 ?_,g2,by omega,g4,g5,g6⟩;rw[sP,if_neg uX];refine .ask a2 a1 ?_;rw[OE,if_neg uX];exact g1
theorem yJ {r:Nat}(hr:r<=n){p:Array Nat}(h:nM n p){m:Nat}(h1:1<=m)(hm:m<=r)(hd:wN rk p m):∃m' p',Run n (qx rk) (kas_tail3 m r p) (m',p')/\nM n p'/\1<=m'/\m'<=r/\Up rk p' m':=by
 have hu:Up rk (kas_rev p 0 m) m:=λi j Ad hj=>by
  rw[wM (by rw[h.size];omega),wM (by rw[h.size];omega),if_pos (by omega),if_pos (by omega)];exact hd _ _ (by omega) (by omega)
 obtain⟨m',q1,q2,q3,q4,_⟩:=wO (h.rev 0 m) hr (r - m) m rfl h1 hm hu;exact⟨m',_,q1.bind (.ret _),h.rev 0 m,by omega,q3,q4⟩
theorem yK {r:Nat}(hr:r<=n){p:Array Nat}(h:nM n p){m:Nat}(hm:m+1<=r)(hd:wN rk p (m+1)):∃m' p',Run n (qx rk) (kas_descPart m r p) (m',p')/\nM n p'/\1<=m'/\m'<=r/\Up rk p' m':=by
 obtain⟨p1,m1,q1,g1,g2,g3,g4,g5,g6⟩:=mG hr (r - (m+1)) p (m+1) 0 h rfl (by omega) hm hd (qy _ (by omega));by_cases hq:q1 > 0
 ·obtain⟨m',p',k1,k2,k3,k4,k5⟩:=yJ hr (g2.rev (m1 - (q1+1)) m1) (m:=m1) (by omega) g4 (Ce (yI (by rw[g2.size];omega) g6) g5);exact⟨m',p',g1.bind (by dsimp only;rw[if_pos hq];exact k1),k2,k3,k4,k5⟩
 ·obtain⟨m',p',k1,k2,k3,k4,k5⟩:=yJ hr g2 (m:=m1) (by omega) g4 g5;exact⟨m',p',g1.bind (by dsimp only;rw[if_neg hq];exact k1),k2,k3,k4,k5⟩
theorem DR {p:Array Nat}(h:nM n p)(hn:1<=n):∃m' p',Run n (qx rk) (kas_count n p) (m',p')/\nM n p'/\1<=m'/\m'<=n/\Up rk p' m':=by
 obtain⟨m,q1,q2,q3,q4,q5⟩:=wO h (vT n) (n - 1) 1 rfl (vT 1) hn (NO (rk:=rk) p);by_cases e:m=n
 ·exact⟨m,p,q1.bind (by rw[if_pos (by simp[e])];exact .ret _),h,q2,q3,q4⟩
 ·have fN:=q5 (by omega);have e1:¬(m == n)=true:=by simp[e]
  by_cases Px:m > 1
  ·by_cases hc:c7 rk p 0<c7 rk p (m - 1)
   ·refine⟨m,p,q1.bind ?_,h,q2,q3,q4⟩;rw[if_neg e1,if_pos Px];refine .ask (h.lt (by omega)) (h.lt (by omega)) ?_;have:qx rk (p.getD 0 0) (p.getD (m - 1) 0)=true:=decide_eq_true hc;rw[this,if_pos rfl];exact .ret _
   ·have l8:∀k,k<m->c7 rk p k=c7 rk p 0:=λk hk=>by
     have z1:=q4 0 k (by omega) hk;have z2:=q4 k (m - 1) (by omega) (by omega);omega
    have er:∀k,c7 rk (kas_rev p 0 m) k=c7 rk p k:=λk=>by
     rw[wM (by rw[h.size];omega)];split
     ·rename_i z;rw[l8 _ (by omega),l8 k z.2]
     ·rfl
    have hd:wN rk p (m+1):=λi j Ad hj=>by
     by_cases z:j=m
     ·subst z;by_cases z2:i=j
      ·subst z2;exact Int.le_refl _
      ·rw[l8 i (by omega)];rw[l8 (j - 1) (by omega)]at fN;omega
     ·rw[l8 i (by omega),l8 j (by omega)];exact Int.le_refl _
    obtain⟨m',p',k1,k2,k3,k4,k5⟩:=yK (vT n) (h.rev 0 m) (m:=m) (by omega) (Ce er hd);refine⟨m',p',q1.bind ?_,k2,k3,k4,k5⟩;rw[if_neg e1,if_pos Px];refine .ask (h.lt (by omega)) (h.lt (by omega)) ?_;have:qx rk (p.getD 0 0) (p.getD (m - 1) 0)=false:=decide_eq_false hc;rw[this,if_neg uX];exact k1
  ·have em:m=1:=by omega
   subst em;have hd:wN rk p 2:=λi j Ad hj=>by
    by_cases z2:i=j
    ·subst z2;exact Int.le_refl _
    ·have:i=0:=by omega
     have:j=1:=by omega
     subst_vars;have:=fN;simp at this;omega
   obtain⟨m',p',k1,k2,k3,k4,k5⟩:=yK (vT n) h (m:=1) (by omega) hd;refine⟨m',p',q1.bind ?_,k2,k3,k4,k5⟩;rw[if_neg e1,if_neg Px];exact k1
theorem nY {p:Array Nat}(h:nM n p){k:Nat}(hk:k<n)(hu:Up rk p k):∀(f l r:Nat),r - l<=f->l<=r->r<=k->(∀i,i<l->c7 rk p i<=c7 rk p k)->(∀i,r<=i->i<k->c7 rk p k<c7 rk p i) ->
  ∃l',Run n (qx rk) (kas_place p k f l r) l'/\l'<=k/\(∀i,i<l'->c7 rk p i<=c7 rk p k)/\(∀i,l'<=i->i<k->c7 rk p k<c7 rk p i)
 |0,l,r,hf,hl,hr,h1,h2=>⟨l,.ret l,by omega,h1,λi a b=>h2 i (by omega) b⟩
 |f+1,l,r,hf,hl,hr,h1,h2=>by
  by_cases hge:l ≥ r
  ·refine⟨l,?_,by omega,h1,λi a b=>h2 i (by omega) b⟩;unfold kas_place;rw[if_pos hge];exact .ret l
  ·by_cases hc:c7 rk p k<c7 rk p ((l+r) / 2)
   ·obtain⟨l',q1,q2,q3,q4⟩:=nY h hk hu f l ((l+r) / 2) (by omega) (by omega) (by omega) h1 λi a b=>by
     have:=hu ((l+r) / 2) i a b;omega
    refine⟨l',?_,q2,q3,q4⟩;unfold kas_place;rw[if_neg hge];refine .ask (h.lt (by omega)) (h.lt (by omega)) ?_;have:qx rk (p.getD k 0) (p.getD ((l+r) / 2) 0)=true:=decide_eq_true hc;rw[this,if_pos rfl];exact q1
   ·obtain⟨l',q1,q2,q3,q4⟩:=nY h hk hu f ((l+r) / 2+1) r (by omega) (by omega) hr (λi a=>by
     have:=hu i ((l+r) / 2) (by omega) (by omega);omega) h2
    refine⟨l',?_,q2,q3,q4⟩;unfold kas_place;rw[if_neg hge];refine .ask (h.lt (by omega)) (h.lt (by omega)) ?_;have:qx rk (p.getD k 0) (p.getD ((l+r) / 2) 0)=false:=decide_eq_false hc;rw[this,if_neg uX];exact q1
theorem Cf:∀(f:Nat)(p:Array Nat)(k:Nat),nM n p->n - k=f->k<=n->Up rk p k->∃p',Run n (qx rk) (kas_bin f p k) p'/\nM n p'/\Up rk p' n
 |0,p,k,h,hf,hk,hu=>⟨p,.ret p,h,(show k=n by omega) ▸ hu⟩
 |f+1,p,k,h,hf,hk,hu=>by
  have fP:k<n:=by omega
  obtain⟨l,q1,q2,q3,q4⟩:=nY h fP hu k 0 k (by omega) (by omega) (vT _) (λi z=>by omega) (λi a b=>by omega);have hsz:k<p.size:=by rw[h.size];exact fP
  have Iz:Up rk (bubble p k (k - l)) (k+1):=λi j Ad hj=>by
   rw[Go hsz (by omega),Go hsz (by omega)];have e:k - (k - l)=l:=by omega
   rw[e];by_cases i1:i=l
   ·rw[if_pos i1];by_cases j1:j=l
    ·rw[if_pos j1];exact Int.le_refl _
    ·rw[if_neg j1,if_pos (by omega)];have:=q4 (j - 1) (by omega) (by omega);omega
   ·rw[if_neg i1];by_cases i2:l<i/\i<=k
    ·rw[if_pos i2,if_neg (by omega),if_pos (by omega)];exact hu _ _ (by omega) (by omega)
    ·rw[if_neg i2];by_cases j1:j=l
     ·rw[if_pos j1];exact q3 i (by omega)
     ·rw[if_neg j1];by_cases j2:l<j/\j<=k
      ·rw[if_pos j2];exact hu _ _ (by omega) (by omega)
      ·rw[if_neg j2];exact hu _ _ Ad (by omega)
  obtain⟨p',k1,k2,k3⟩:=Cf f (bubble p k (k - l)) (k+1) (h.bub _ _) (by omega) (by omega) Iz;exact⟨p',q1.bind k1,k2,k3⟩
theorem yL (hn:1<=n):∃p,Run n (qx rk) (kas_sort n) p/\nM n p/\Up rk p n:=by
 have h0:nM n (List.toArray (List.range n)):=⟨by simp,by simp⟩;obtain⟨m,p,q1,q2,q3,q4,q5⟩:=DR (rk:=rk) h0 hn;by_cases e:m<n
 ·have YL:max m 1=m:=by omega
  obtain⟨p',k1,k2,k3⟩:=Cf (n - max m 1) p (max m 1) q2 rfl (by omega) (by rw[YL];exact q5);exact⟨p',q1.bind (by dsimp only;rw[if_pos e];exact k1),k2,k3⟩
 ·have:m=n:=by omega
  subst this;exact⟨p,q1.bind (by dsimp only;rw[if_neg e];exact .ret _),q2,q5⟩
end
theorem lg {a b c:List Int}(h:a<b)(k:b<c):a<c:=List.lt_trans h k
theorem DS {a b c:List Int}(h:¬b<a)(k:¬c<b):¬c<a:=List.not_lt.mpr (List.le_trans (List.not_lt.mp h) (List.not_lt.mp k))
theorem Gp {a b:List Int}(h:¬b<a)(k:¬a<b):a=b:=List.le_antisymm (List.not_lt.mp h) (List.not_lt.mp k)
section
variable {α:Type}(f:α->List Int)
def Gq (a b:α):Prop:=¬f b<f a
noncomputable def nZ (x:α):List α->List α
 |[]=>[x]
 |y::r=>if f y<f x then y::nZ x r else x::y::r
noncomputable def dw (l:List α):List α:=l.foldr (nZ f) []
theorem oe (x:α):∀l,(nZ f x l).Perm (x::l)
 |[]=>List.Perm.refl _
 |y::r=>by
  unfold nZ;split
  ·exact((oe x r).cons y).trans (List.Perm.swap x y r)
  ·exact List.Perm.refl _
theorem bv:∀l,(dw f l).Perm l
 |[]=>List.Perm.refl _
 |x::l=>(oe f x (dw f l)).trans ((bv l).cons x)
theorem uq (x:α):∀l,l.Pairwise (Gq f)->(nZ f x l).Pairwise (Gq f)
 |[],_=>by simp[nZ]
 |y::r,h=>by
  obtain⟨h1,h2⟩:=List.pairwise_cons.mp h;unfold nZ;split
  ·rename_i hl;refine List.pairwise_cons.mpr ⟨λz hz=>?_,uq x r h2⟩;rcases vP ((oe f x r).mem_iff.mp hz)with rfl|hz
   ·exact λk=>List.lt_irrefl _ (lg hl k)
   ·exact h1 z hz
  ·rename_i hl;refine List.pairwise_cons.mpr ⟨λz hz=>?_,h⟩;rcases vP hz with rfl|hz
   ·exact hl
   ·exact DS hl (h1 z hz)
theorem fz:∀l,(dw f l).Pairwise (Gq f)
 |[]=>List.Pairwise.nil
 |x::l=>uq f x _ (fz l)
theorem ur:∀(l1 l2:List α),(∀x∈l1,∀y∈l1,f x=f y->x=y)->l1.Perm l2->l1.Pairwise (Gq f)->l2.Pairwise (Gq f)->l1=l2
 |[],l2,_,p,_,_=>(List.nil_perm.mp p).symm
 |x::r1,[],_,p,_,_=>absurd p.length_eq (by simp)
 |x::r1,y::r2,hi,p,h1,h2=>by
  have hy:y∈x::r1:=p.mem_iff.mpr (mX ..);have Pw:Gq f x y:=by
   rcases vP hy with z|z
   ·rw[z];exact List.lt_irrefl _
   ·exact(List.pairwise_cons.mp h1).1 y z
  have UN:Gq f y x:=by
   rcases vP (p.mem_iff.mp (mX ..))with z|z
   ·rw[z];exact List.lt_irrefl _
   ·exact(List.pairwise_cons.mp h2).1 x z
  have e:x=y:=hi x (mX ..) y hy (Gp Pw UN);subst e;rw[ur r1 r2 (λa ha b hb=>hi a (mZ _ ha) b (mZ _ hb)) (List.Perm.cons_inv p) (List.pairwise_cons.mp h1).2 (List.pairwise_cons.mp h2).2]
theorem gL (hi:∀x∈l,∀y∈l,f x=f y->x=y)(p:l'.Perm l)(h:l'.Pairwise (Gq f)):l'=dw f l :=
 ur f _ _ (λx hx y hy=>hi x (p.mem_iff.mp hx) y (p.mem_iff.mp hy)) (p.trans (bv f l).symm) h (fz f l)
end
theorem lV {α:Type}{p q:α->Bool}(h:∀x,p x=true->q x=true):∀l:List α,(l.filter p).length<=(l.filter q).length
 |[]=>vT _
 |x::l=>by
  have ih:=lV h l;rw[List.filter_cons,List.filter_cons];by_cases z:p x=true
  ·rw[if_pos z,if_pos (h x z)];simp only[vE];omega
  ·rw[if_neg z];split
   ·simp only[vE];omega
   ·exact ih
noncomputable def mH (cs:List (List Int))(c:List Int):Int:=((cs.filter λx=>decide (x<c)).length:Nat)
theorem JH {cs:List (List Int)}{a b:List Int}(h:¬b<a):mH cs a<=mH cs b:=by
 unfold mH;refine Int.ofNat_le.mpr (lV (λx hx=>?_) cs);rw[decide_eq_true_eq]at hx ⊢;rcases List.le_iff_lt_or_eq.mp (List.not_lt.mp h)with z|z
 ·exact lg hx z
 ·rw[←z];exact hx
theorem wP {cs:List (List Int)}{a b:List Int}(ha:a∈cs)(h:a<b):mH cs a<mH cs b:=by
 unfold mH;apply Int.ofNat_lt.mpr;induction cs with
 |nil=>simp at ha
 |cons c cs ih=>
  have key:∀l:List (List Int),(l.filter λx=>decide (x<a)).length<=(l.filter λx=>decide (x<b)).length:=λl=>
   lV (λx hx=>by rw[decide_eq_true_eq]at hx ⊢;exact lg hx h) l
  rw[List.filter_cons,List.filter_cons];rcases vP ha with rfl|ha
  ·rw[if_neg (by simp[List.lt_irrefl]),if_pos (by simpa using h)];have:=key cs;simp only[vE];omega
  ·have:=ih ha;by_cases z:c<a
   ·rw[if_pos (by simpa using z),if_pos (by simpa using lg z h)];simp only[vE];omega
   ·rw[if_neg (by simpa using z)];split
    ·simp only[vE];omega
    ·exact this
theorem yM (ha:a∈cs):decide (mH cs a<mH cs b)=decide (a<b):=by
 by_cases h:a<b
 ·rw[decide_eq_true h,decide_eq_true (wP ha h)]
 ·rw[decide_eq_false h,decide_eq_false];have:=JH (cs:=cs) h;omega
inductive At where
 |i (n:Int)
 |s (z:Str)
noncomputable def NP:At->List Int
 |.i n=>[n]
 |.s z=>z.cps.toList.map (λ(c:Nat)=>(c:Int)+1)++[0]
noncomputable def cB (xs:List At):List Int:=xs.flatMap NP
noncomputable def aZ:List At->List At->Option Bool
 |[],ys=>some (!ys.isEmpty)
 |_::_,[]=>some false
 |.i a::xs,.i b::ys=>if a=b then aZ xs ys else some (decide (a<b))
 |.s a::xs,.s b::ys=>if a=b then aZ xs ys else some (decide (a.cps.toList<b.cps.toList))
 |_::_,_::_=>none
theorem wQ:∀(a b:List Nat)(r r':List Int),(a.map (λ(c:Nat)=>(c:Int)+1)++0::r)<(b.map (λ(c:Nat)=>(c:Int)+1)++0::r')↔a<b∨(a=b/\r<r')
 |[],[],r,r'=>by simp[List.cons_lt_cons_iff]
 |[],y::b,r,r'=>by simp[List.cons_lt_cons_iff]
 |x::a,[],r,r'=>by simp[List.cons_lt_cons_iff];omega
 |x::a,y::b,r,r'=>by
  rw[uY,uY,List.cons_append,List.cons_append,List.cons_lt_cons_iff,wQ a b r r',List.cons_lt_cons_iff];constructor
  ·rintro (h|⟨h,k|⟨k1,k2⟩⟩)
   ·exact .inl (.inl (by omega))
   ·exact .inl (.inr ⟨by omega,k⟩)
   ·exact .inr ⟨by rw[k1,show x=y by omega],k2⟩
  ·rintro ((h|⟨h,k⟩)|⟨h,k⟩)
   ·exact .inl (by omega)
   ·exact .inr ⟨by omega,.inl k⟩
   ·injection h with h1 h2;exact .inr ⟨by omega,.inr ⟨h2,k⟩⟩
theorem jy (x:At)(xs:List At):cB (x::xs)=NP x++cB xs:=by unfold cB;rw[uO]
theorem NQ (x:At):NP x≠[]:=by cases x<;>simp[NP]
theorem Cg {a b:Str}:a.cps.toList=b.cps.toList↔a=b:=by
 constructor
 ·intro h;obtain⟨a⟩:=a;obtain⟨b⟩:=b;have:a=b:=Array.toList_inj.mp h;rw[this]
 ·rintro rfl;rfl
theorem wR:∀(xs ys:List At)(b:Bool),aZ xs ys=some b->b=decide (cB xs<cB ys)
 |[],[],b,h=>by simp[aZ]at h;subst h;simp[cB]
 |[],y::ys,b,h=>by
  simp[aZ]at h;subst h;rw[jy];cases e:NP y with
  |nil=>exact absurd e (NQ y)
  |cons c cs=>simp[cB]
 |x::xs,[],b,h=>by simp[aZ]at h;subst h;simp[cB]
 |.i a::xs,.i c::ys,b,h=>by
  rw[aZ]at h;rw[jy,jy];show b=decide (a::cB xs<c::cB ys);split at h
  ·rename_i e;subst e;rw[wR xs ys b h];exact decide_eq_decide.mpr (by rw[List.cons_lt_cons_iff];simp)
  ·rename_i e;cases h
   exact decide_eq_decide.mpr (by rw[List.cons_lt_cons_iff];simp[e])
 |.s a::xs,.s c::ys,b,h=>by
  rw[aZ]at h;rw[jy,jy];have e0:∀(z:Str)(r:List Int),NP (.s z)++r=z.cps.toList.map (λ(c:Nat)=>(c:Int)+1)++0::r:=λz r=>by simp[NP]
  rw[e0,e0];split at h
  ·rename_i e;subst e;rw[wR xs ys b h];exact decide_eq_decide.mpr (by rw[wQ];exact⟨λz=>.inr ⟨rfl,z⟩,λz=>z.elim (λq=>absurd q (List.lt_irrefl _)) (·.2)⟩)
  ·rename_i e;cases h
   exact decide_eq_decide.mpr (by rw[wQ,Cg];exact⟨.inl,λz=>z.elim id λq=>absurd q.1 e⟩)
 |.i _::_,.s _::_,b,h=>by simp[aZ]at h
 |.s _::_,.i _::_,b,h=>by simp[aZ]at h
theorem AX:∀(xs ys:List At),aZ xs ys=some false->aZ ys xs=some false->xs=ys
 |[],[],_,_=>rfl
 |[],y::ys,h,_=>by simp[aZ]at h
 |x::xs,[],_,h=>by simp[aZ]at h
 |.i a::xs,.i c::ys,h,k=>by
  rw[aZ]at h k;by_cases e:a=c
  ·subst e;rw[if_pos rfl]at h k;rw[AX xs ys h k]
  ·rw[if_neg e]at h;rw[if_neg (Ne.symm e)]at k;simp at h k;omega
 |.s a::xs,.s c::ys,h,k=>by
  rw[aZ]at h k;by_cases e:a=c
  ·subst e;rw[if_pos rfl]at h k;rw[AX xs ys h k]
  ·rw[if_neg e]at h;rw[if_neg (Ne.symm e)]at k;simp only[Option.some.injEq,decide_eq_false_iff_not]at h k;exact absurd (Cg.mp (List.le_antisymm (List.not_lt.mp k) (List.not_lt.mp h))) e
 |.i _::_,.s _::_,h,_=>by simp[aZ]at h
 |.s _::_,.i _::_,h,_=>by simp[aZ]at h
noncomputable def dz (ks:List (List At)):Bool:=ks.all λx=>ks.all λy=>(aZ x y).isSome
theorem im (h:dz ks=true)(hx:x∈ks)(hy:y∈ks):aZ x y=some (decide (cB x<cB y)):=by
 have:=uR (uR h x hx) y hy;obtain⟨b,e⟩:=uU this;rw[e,wR _ _ _ e]
theorem lh (h:dz ks=true)(hx:x∈ks)(hy:y∈ks)(e:cB x=cB y):x=y:=by
 refine AX _ _ ?_ ?_
 ·rw[im h hx hy,e,decide_eq_false (List.lt_irrefl _)]
 ·rw[im h hy hx,e,decide_eq_false (List.lt_irrefl _)]
def yN:At->Value->Prop
 |.i n,v=>∃t,v=.int n t
 |.s z,v=>∃t,v=.str z t
def fB (h:Heap)(xs:List At)(v:Value):Prop:=∃a o its n,v=.ref a/\h.get? a=some o/\o.cls=.type "tuple"/\o.data=.seq its n/\Paired yN xs its.toList
theorem fB.keep (x:fB h xs v)(k:∀a o,o.cls=.type "tuple"->h.get? a=some o->h'.get? a=some o):fB h' xs v:=by
 obtain⟨a,o,its,n,e,ho,hc,r⟩:=x;exact⟨a,o,its,n,e,k a o hc ho,hc,r⟩
noncomputable def de (ks:List (List At)):Bool:=ks.all (λx=>match x with|.i _::_=>true|_=>false) || ks.all (λx=>match x with|.s _::_=>true|_=>false)
section
variable {prog:Program}{w:World}{A:Around}{E:Value->Shared->Prop}{s:Shared}
theorem qz:∀(xs ys:List At)(its gA:List Value)(i:Nat),Paired yN xs its->Paired yN ys gA->aZ xs ys=some b->mo=decide (xs.length<ys.length)->Q b s->KatLex prog w A true mo Q (its.zip gA) i s
 |[],ys,_,gA,i,.nil,r2,h,hf,q=>by
  rw[List.zip_nil_left];refine kat_nil ?_;cases ys with
  |nil=>simp[aZ]at h;subst h;rw[hf];exact q
  |cons y ys=>simp[aZ]at h;subst h;rw[hf];simpa using q
 |x::xs,[],_,_,i,_,.nil,h,hf,q=>by
  rw[List.zip_nil_right];refine kat_nil ?_;simp[aZ]at h;subst h;rw[hf];simpa using q
 |.i a::xs,.i c::ys,_,_,i,.cons r1 O5,.cons r2 r2',h,hf,q=>by
  obtain⟨t,rfl⟩:=r1;obtain⟨u,rfl⟩:=r2;rw[List.zip_cons_cons];refine kat_cons (wpAny_eqBool_int ?_);rw[aZ]at h;by_cases e:a=c
  ·rw[if_pos e]at h;rw[show(a == c)=true by simp[e]];exact kat_yes (qz xs ys _ _ (i+1) O5 r2' h (by rw[hf];simp) q)
  ·rw[if_neg e]at h;cases h
   rw[show(a == c)=false by simp[e]];refine kat_no ?_;cases hb:(true && i == 0) with
   |true=>exact oneLt_int q
   |false=>exact kat_one _ _ (PyProof.Rows.lt_int q)
 |.s a::xs,.s c::ys,_,_,i,.cons r1 O5,.cons r2 r2',h,hf,q=>by
  obtain⟨t,rfl⟩:=r1;obtain⟨u,rfl⟩:=r2;rw[List.zip_cons_cons];refine kat_cons (wpAny_eqBool_str ?_);rw[aZ]at h;by_cases e:a=c
  ·rw[if_pos e]at h;rw[decide_eq_true e];exact kat_yes (qz xs ys _ _ (i+1) O5 r2' h (by rw[hf];simp) q)
  ·rw[if_neg e]at h;cases h
   rw[decide_eq_false e];refine kat_no ?_;cases hb:(true && i == 0) with
   |true=>exact oneLt_str q
   |false=>exact kat_one _ _ (PySem.P.lt_str q)
 |.i _::_,.s _::_,_,_,_,_,_,h,_,_=>by simp[aZ]at h
 |.s _::_,.i _::_,_,_,_,_,_,h,_,_=>by simp[aZ]at h
theorem gp {α β:Type}{F:α->β->Prop}:∀ {l₁:List α}{l₂:List β},Paired F l₁ l₂->l₁.length=l₂.length
 |_,_,.nil=>rfl
 |_,_,.cons _ t=>by simp[gp t]
theorem NR {Q:Bool->Shared->Prop}{xs ys:List At}{x y:Value}{b:Bool}(hx:fB s.heap xs x)(hy:fB s.heap ys y)(h:aZ xs ys=some b)(q:Q b s):wpAny (model prog w) A (keyLt' (tuples' true) x y) Q E s:=by
 obtain⟨a,o,its,n,rfl,ho,_,hd,r⟩:=hx;obtain⟨a',o',its',n',rfl,xB,_,E7,r'⟩:=hy;refine kat_lt ho hd xB E7 (qz xs ys _ _ 0 r r' h ?_ q);rw[←vG,←vG,gp r,gp r']
theorem oM:∀ {ks:List (List At)}{vs:List Value},Paired (fB h) ks vs->(∀k∈ks,k≠[])->∃fs,KatTups h vs fs/\fs.length=ks.length/\∀v∈fs,∃k r,(k::r)∈ks/\yN k v
 |_,_,.nil,_=>⟨[],trivial,rfl,by simp⟩
 |k::ks,_,.cons x t,p0=>by
  obtain⟨fs,h1,h2,h3⟩:=oM t λz hz=>p0 z (mZ _ hz);obtain⟨a,o,its,n,rfl,ho,hc,hd,r⟩:=x;cases r':its.toList with
  |nil=>
   rw[r']at r;cases r
   exact absurd rfl (p0 [] (mX ..))
  |cons v vs=>
   rw[r']at r;obtain⟨p,r1⟩:∃p,its[0]? = some v:=⟨(),by rw[←Array.getElem?_toList,r'];rfl⟩;cases r with
   |cons q qs=>
    rename_i k0 kr;refine⟨v::fs,KatTups.cons ho hc hd r1 h1,by simp[h2],λu hu=>?_⟩;rcases vP hu with rfl|hu
    ·exact⟨k0,kr,mX ..,q⟩
    ·obtain⟨k1,r1,m1,m2⟩:=h3 u hu;exact⟨k1,r1,mZ _ m1,m2⟩
theorem yO (hp:Paired (fB s.heap) ks vs)(hf:de ks=true)(hn:0<ks.length)(q:Q (tuples' true) s):wpAny (model prog w) A (keyKind' vs.toArray) Q E s:=by
 have p0:∀k∈ks,k≠[]:=λk hk z=>by
  subst z;unfold de at hf;rw[Bool.or_eq_true]at hf;rcases hf with hf|hf
  ·have:=uR hf [] hk;simp at this
  ·have:=uR hf [] hk;simp at this
 obtain⟨fs,h1,h2,h3⟩:=oM hp p0;unfold de at hf;rw[Bool.or_eq_true]at hf;rcases hf with hf|hf
 ·refine kat_kind (T:=.type "int") h1 (by omega) (λv hv=>?_) (by decide) q;obtain⟨k,r,m,z⟩:=h3 v hv;have:=uR hf _ m;cases k with
  |i n=>obtain⟨t,rfl⟩:=z;exact .now
  |s z'=>simp at this
 ·refine kat_kind (T:=.type "str") h1 (by omega) (λv hv=>?_) (by decide) q;obtain⟨k,r,m,z⟩:=h3 v hv;have:=uR hf _ m;cases k with
  |s z'=>obtain⟨t,rfl⟩:=z;exact .now
  |i n=>simp at this
end
section
variable {prog:Program}{w:World}{A:Around}{E:Value->Shared->Prop}{s:Shared}
theorem fD {α β:Type}{F:α->β->Prop}(d:α)(e:β):∀ {l₁:List α}{l₂:List β},Paired F l₁ l₂->∀ {i:Nat},i<l₁.length->F (l₁.getD i d) (l₂.getD i e)
 |_,_,.cons r t,0,_=>r
 |_,_,.cons r t,i+1,h=>by
  simp only[List.getD_cons_succ];exact fD d e t (by simpa using h)
 |_,_,.nil,i,h=>by simp at h
def An (ks:List (List At))(i:Nat):Int:=mH (ks.map cB) (cB (ks.getD i []))
theorem Ch {ks:List (List At)}{vs:List Value}(hc:dz ks=true)(hp:Paired (fB s.heap) ks vs):∀(i j:Nat)(C:Bool->Shared->Prop)(s1:Shared),i<ks.length->j<ks.length->s1=s->(∀s',s'=s->C (qx (An ks) i j) s')->kas_ask prog w A (tuples' true) vs i j C s1:=by
 intro i j C s1 hi hj e hC;subst e;unfold kas_ask;have mi:ks.getD i []∈ks:=by rw[vF,vU hi];exact List.getElem_mem hi
 have mj:ks.getD j []∈ks:=by rw[vF,vU hj];exact List.getElem_mem hj
 refine NR (fD [] Value.none hp hi) (fD [] Value.none hp hj) (im hc mi mj) ?_;have:=hC s1 rfl;unfold qx An at this;rw[yM (uS ⟨_,mi,rfl⟩)]at this;exact this
theorem DT (ho:s.heap.get? a=some (seqObj "list" vs.toArray n))(hk:Paired (fB s.heap) ks vs)(hc:dz ks=true)(hf:de ks=true)(vx:vs.length<64)
  (h:∀p:Array Nat,nM vs.length p->Up (An ks) p vs.length->P (.done (.ret .none)) { s with heap:=sortedHeap s.heap a vs (List.toArray (p.toList.map λi=>vs.getD i Value.none)) }):
  wpAny (model prog w) A (Builtin.«list.sort» ⟨[.ref a],[]⟩) P E s:=by
 have ha:=vX ho;have bK:ks.length=vs.length:=gp hk;obtain⟨e1,KZ⟩:∃e1,(s.heap.update a (Obj.mapSeq λ_=>#[])).get? a=some (seqObj "list" #[] e1):=⟨_,get?_update_seq ho (λ_=>#[])⟩;let h6:Heap:=((s.heap.update a (Obj.mapSeq λ_=>#[])).push (seqObj "tuple" vs.toArray 0)).push (seqObj "list" #[] 0);have Mi:∀b u,b≠a->s.heap.get? b=some u->h6.get? b=some u:=λb u hb q=>
  vZ _ (vZ _ ((Heap.get?_update_ne _ _ _ _ hb).trans q))
 have WC:h6.get? a=some (seqObj "list" #[] e1):=vZ _ (vZ _ KZ);have WD:Paired (fB h6) ks vs:=L2.Paired.mapP hk λk v x=>x.keep λb u sP q=>Mi b u (λz=>by
  subst z;rw[ho]at q;cases q;injection sP with z;exact absurd z (by decide)) q
 rw[list_sort_plain];refine wX (listItems_at ho rfl (wX (listUpdate_at ho rfl (wX (seqEpoch_at KZ rfl (wX (wpAny_newTuple (wX (wpAny_newList (wpAny_holding ?_))) (by show vs.length<=sizeLine;rw[sizeLine_eq];omega))))))));show wpAny (model prog w) A _ P E { s with heap:=h6 };dsimp only;have HY:∀(st:SortSt)(p:Array Nat),arrOf st=p.map (kas_item (vs.toArray.zip vs.toArray))->failedOf st=none->nM vs.length p->Up (An ks) p vs.length ->
   wpAny (model prog w) A (do
    let touched:=(←seqEpoch a) != e1
    Builtin.List.listUpdate (.ref a) λ_=>(arrOf st).map (·.2)
    if let some e:=failedOf st then rule "list.sort.comparison-raised";throw e
    if touched then rule "list.sort.modified";raiseError "ValueError" "list modified during sort"
    ret .none) P E { s with heap:=h6 }:=λst p ea ef ap up=>by
  have eo:(arrOf st).map (·.2)=List.toArray (p.toList.map λi=>vs.getD i Value.none):=kat_snds rfl ea;refine wX (seqEpoch_at WC rfl ?_);refine wX (listUpdate_at WC rfl ?_ (hsz2:=by rw[eo];simp only[vH,vI,vG,ap.size,sizeLine_eq];omega));rw[ef];simp only[bne_self_eq_false,uV,if_false];rw[eo];exact wY (h p ap up)
 by_cases h2:vs.toArray.size<2
 ·rw[if_pos h2,if_pos h2];refine wX (wY ?_);rw[StateT.run_pure];refine wX (wY ?_);have UO:vs.length<2:=by simpa using h2
  refine HY _ (List.toArray (List.range vs.length)) ?_ rfl ⟨by simp,by simp⟩ ?_
  ·show vs.toArray.zip vs.toArray=_;have:=kas_range (vs.toArray.zip vs.toArray);rw[show(vs.toArray.zip vs.toArray).size=vs.length by simp]at this;exact this.symm
  ·intro i j Ad hj;have:i=j:=by omega
   subst this;exact Int.le_refl _
 ·rw[if_neg h2,if_neg h2];have EB:2<=vs.length:=by simp at h2;omega
  refine wX (yO (s:={ s with heap:=h6 }) WD hf (by omega) ?_);obtain⟨p,r1,r2,r3⟩:=yL (n:=vs.length) (rk:=An ks) (by omega);refine wX (wpAny_mono (kat_run (E:=E) (ks:=vs) (vs:=vs) (κ:=tuples' true) (s:={ s with heap:=h6 }) (Q:=λjm s'=>s'={ s with heap:=h6 }/\arrOf jm=p.map (kas_item (vs.toArray.zip vs.toArray))/\failedOf jm=none)
   (G:=λp' s'=>p'=p/\s'={ s with heap:=h6 }) rfl EB vx (λp' jm s' _ e2 e3 e4=>by
    obtain⟨rfl,rfl⟩:=e4;exact⟨rfl,e2,e3⟩) (Run.wp (λs'=>s'={ s with heap:=h6 }) (λi j C s1 hi hj e hC=>Ch (s:={ s with heap:=h6 }) hc WD i j C s1 (by omega) (by omega) e hC) r1 rfl λs' e=>⟨rfl,e⟩)) (λr s' hr=>?_) λ_ _ z=>z)
  obtain⟨⟨⟩,jm⟩:=r;obtain⟨rfl,e2,e3⟩:=hr;exact HY jm p e2 e3 r2 r3
theorem yP (hl:s.heap.IsList l vs.toArray)(hk:Paired (fB s.heap) ks vs)(hc:dz ks=true)(hf:de ks=true)(vx:vs.length<64)
  (h:∀p:Array Nat,nM vs.length p->Up (An ks) p vs.length->Q (.ref (s.heap.objs.size+1)) { s with heap:=sortedAll s.heap vs (List.toArray (p.toList.map λi=>vs.getD i Value.none)) }):
  wpAny (model prog w) A (call (.builtin "sorted") [.ref l]) Q E s:=by
 let h1:Heap:=(s.heap.push (seqObj "list" #[] 0)).update s.heap.objs.size (Obj.mapSeq (· ++ vs.toArray));have hsz:h1.objs.size=s.heap.objs.size+1:=by show(Heap.update _ _ _).objs.size=_;rw[Heap.size_update,size_push']
 let h2:Heap:=h1.push (seqObj "list" vs.toArray 0);have EQ:h2.get? (s.heap.objs.size+1)=some (seqObj "list" vs.toArray 0):=by rw[←hsz];exact vY _ rfl
 have YM:Paired (fB h2) ks vs:=L2.Paired.mapP hk λk v x=>x.keep λb u _ q=>
  vZ _ ((Heap.get?_update_ne _ _ _ _ (vS (vX q))).trans (vZ _ q))
 refine Calls.call_function_entry kind_sorted plain_sorted entry_sorted (args_sorted1 _) ?_;unfold Builtin.«sorted»;refine wX (m:=checkCount "sorted" 1 1 _) (wY (wX (collect_list hl (wX (wpAny_newList ?_)))));show wpAny _ _ _ _ _ { s with heap:=h2 };rw[show((s.heap.push (seqObj "list" #[] 0)).update s.heap.objs.size (Obj.mapSeq (· ++ vs.toArray))).objs.size=s.heap.objs.size+1 from hsz];exact wX (wpAny_holding (wpAny_call_entry slot_list_sort ⟨_,EQ,rfl⟩ entry_list_sort (DT EQ YM hc hf vx λp ap up=>⟨_,rfl,wY ⟨_,rfl,h p ap up⟩⟩) (args_list_sort _)))
end
end DL
namespace DL
open PySem PySem.Spec PySem.W PyProof.Rows L2
noncomputable def ut:D->Option At
 |.int n=>some (.i n)
 |.str z=>some (.s z)
 |_=>none
def df:List D->Option (List At)
 |[]=>some []
 |d::ds=>(ut d).bind λa=>(df ds).map (a :: ·)
def mI:D->Option (List At)
 |.tup es=>df es
 |_=>none
def dA:List D->Option (List (List At))
 |[]=>some []
 |d::ds=>(mI d).bind λa=>(dA ds).map (a :: ·)
def Gr (d:D):List Int:=cB ((mI d).getD [])
noncomputable def mJ:List D->Option (List Int)
 |[]=>some []
 |.int n::ds=>(mJ ds).map (n :: ·)
 |_::_=>none
def kg (ns:List Int):List Int:=dw (λn=>[n]) ns
def eN:List D->Option (D×Bool)
 |[.lst ds]=>match ga ds with
  |some ss=>if ss.length<64 then some (.lst ((kE ss).map .str),true)else none
  |none=>match mJ ds with
   |some ns=>if ns.length<64 then some (.lst ((kg ns).map .int),true)else none
   |none=>match dA ds with
    |some ks=>if ks.length<64/\dz ks=true/\de ks=true then some (.lst (dw Gr ds),true)else none
    |none=>none
 |_=>none
theorem DU (h:ut d=some a)(k:ut e=some a):d=e:=by
 cases d<;>simp only[ut]at h<;>cases h<;>cases e<;>simp only[ut]at k<;>cases k<;>rfl
theorem q8:∀ {ds es:List D}{as:List At},df ds=some as->df es=some as->ds=es
 |[],[],_,_,_=>rfl
 |[],e::es,as,h,k=>by
  simp only[df]at h k;cases h
  obtain⟨a,_,k⟩:=oX k;obtain⟨r,_,k⟩:=oY k;cases k
 |d::ds,[],as,h,k=>by
  simp only[df]at h k;cases k
  obtain⟨a,_,h⟩:=oX h;obtain⟨r,_,h⟩:=oY h;cases h
 |d::ds,e::es,as,h,k=>by
  simp only[df]at h k;obtain⟨a,h1,h⟩:=oX h;obtain⟨r,h2,h⟩:=oY h;obtain⟨a',k1,k⟩:=oX k;obtain⟨r',k2,k⟩:=oY k;subst h;injection k with z1 z2;subst z1;subst z2;rw[DU h1 k1,q8 h2 k2]
theorem Gs (h:mI d=some k)(h':mI e=some k):d=e:=by
 cases d<;>simp only[mI]at h<;>try (cases h;done)
 cases e<;>simp only[mI]at h'<;>try (cases h';done)
 rw[q8 h h']
theorem fL:∀ {ds:List D}{ks:List (List At)},dA ds=some ks->ks.length=ds.length
 |[],_,h=>by simp only[dA]at h;cases h;rfl
 |d::ds,_,h=>by
  simp only[dA]at h;obtain⟨a,h1,h⟩:=oX h;obtain⟨r,h2,h⟩:=oY h;subst h;simp[fL h2]
theorem io:∀ {ds:List D}{ks:List (List At)},dA ds=some ks->∀ {i:Nat},i<ds.length->mI (ds.getD i .non)=some (ks.getD i [])
 |[],_,h,i,hi=>by simp at hi
 |d::ds,_,h,0,hi=>by
  simp only[dA]at h;obtain⟨a,h1,h⟩:=oX h;obtain⟨r,h2,h⟩:=oY h;subst h;exact h1
 |d::ds,_,h,i+1,hi=>by
  simp only[dA]at h;obtain⟨a,h1,h⟩:=oX h;obtain⟨r,h2,h⟩:=oY h;subst h;simp only[List.getD_cons_succ];exact io h2 (by simpa using hi)
theorem qA {α:Type}(l:List α)(d:α):(List.range l.length).map (λi=>l.getD i d)=l:=by
 apply List.ext_getElem?;intro i;by_cases h:i<l.length
 ·simp[h]
 ·simp[h]
theorem AY (hk:dA ds=some ks)(hc:dz ks=true)(ap:nM ds.length p)(up:Up (An ks) p ds.length):p.toList.map (λi=>ds.getD i .non)=dw Gr ds:=by
 have mem:∀x∈ds,∃k∈ks,mI x=some k:=λx hx=>by
  obtain⟨i,hi,rfl⟩:=List.mem_iff_getElem.mp hx;have:=io hk hi;rw[vF,vU hi]at this;refine⟨_,?_,this⟩;have ED:i<ks.length:=by rw[fL hk];exact hi
  rw[vF,vU ED];exact List.getElem_mem ED
 apply gL Gr
 ·intro x hx y hy e;obtain⟨k,mk,ek⟩:=mem x hx;obtain⟨k',YN,WE⟩:=mem y hy;unfold Gr at e;rw[ek,WE]at e;have:=lh hc mk YN e;subst this;exact Gs ek WE
 ·have:=ap.perm.map (λi=>ds.getD i .non);rw[qA]at this;exact this
 ·rw[List.pairwise_iff_getElem];intro i j hi hj Ad;have hsz:=ap.size;have ED:i<p.size:=by simpa using hi
  have Py:j<p.size:=by simpa using hj
  have:=up i j (Nat.le_of_lt Ad) (by omega);unfold c7 An at this;have gi:p.getD i 0=p[i]:=by rw[Array.getD_eq_getD_getElem?,Array.getElem?_eq_getElem ED];rfl
  have gj:p.getD j 0=p[j]:=by rw[Array.getD_eq_getD_getElem?,Array.getElem?_eq_getElem Py];rfl
  have li:=ap.lt (k:=i) (by omega);have lj:=ap.lt (k:=j) (by omega);have mj:ks.getD (p.getD j 0) []∈ks:=by
   have h':p.getD j 0<ks.length:=by rw[fL hk];exact lj
   rw[vF,vU h'];exact List.getElem_mem h'
  have nl:¬cB (ks.getD (p.getD j 0) [])<cB (ks.getD (p.getD i 0) []):=λz=>by
   have:=wP (cs:=ks.map cB) (uS ⟨_,mj,rfl⟩) z;omega
  simp only[List.getElem_map,Array.getElem_toList];unfold Gq Gr;rw[←gi,←gj,io hk li,io hk lj];exact nl
section
variable {X:Cx}
theorem yQ {K:PySem.W.Frag}{B:Hp}:∀ {vs:List V}{es:List D}{k:List At}{its:List Value},aX vs its->IsL K B vs es->df es=some k->Paired yN k its
 |_,_,_,_,.nil,.nil,h=>by simp only[df]at h;cases h;exact .nil
 |_,_,_,_,.cons r rr,.cons i ii,h=>by
  simp only[df]at h;obtain⟨a,h1,h⟩:=oX h;obtain⟨t,h2,h⟩:=oY h;subst h;refine .cons ?_ (yQ rr ii h2);cases i<;>simp only[ut]at h1<;>cases h1
  ·exact r
  ·exact r
theorem mK {ae:List (Addr×Obj)}{σ:St}{H:Hp}{s:Shared}(I:Inv X ae σ H s):∀ {ys:List V}{ds:List D}{ks:List (List At)}{its:List Value},aX ys its->IsL X.K H ys ds->dA ds=some ks->Paired (fB s.heap) ks its
 |_,_,_,_,.nil,.nil,h=>by simp only[dA]at h;cases h;exact .nil
 |_,_,_,_,.cons r rr,.cons i ii,h=>by
  simp only[dA]at h;obtain⟨a,h1,h⟩:=oX h;obtain⟨t,h2,h⟩:=oY h;subst h;refine .cons ?_ (mK I rr ii h2);cases i<;>simp only[mI]at h1<;>try (cases h1;done)
  rename_i hq hl;cases r
  obtain⟨its',r',⟨o,ho,hc,n,hd⟩,_⟩:=I.tuple hq;exact⟨_,o,_,n,rfl,ho,hc,hd,by simpa using yQ r' hl h1⟩
theorem Ci {K:PySem.W.Frag}{B:Hp}:∀ {vs:List V}{ds:List D},IsL K B vs ds->∀ {i:Nat},i<ds.length->Is K B (vs.getD i .non) (ds.getD i .non)
 |_,_,.cons h _,0,_=>h
 |_,_,.cons _ t,i+1,hi=>by
  simp only[List.getD_cons_succ];exact Ci t (by simpa using hi)
 |_,_,.nil,i,hi=>by simp at hi
theorem yR:∀ {vs:List V}{us:List Value},aX vs us->∀ {i:Nat},i<vs.length->ba (vs.getD i .non) (us.getD i Value.none)
 |_,_,.cons h _,0,_=>h
 |_,_,.cons _ t,i+1,hi=>by
  simp only[List.getD_cons_succ];exact yR t (by simpa using hi)
 |_,_,.nil,i,hi=>by simp at hi
theorem qB {K:PySem.W.Frag}{B:Hp}{vs:List V}{ds:List D}(h:IsL K B vs ds):∀(l:List Nat),(∀i∈l,i<ds.length)->IsL K B (l.map λi=>vs.getD i .non) (l.map λi=>ds.getD i .non)
 |[],_=>.nil
 |i::l,hl=>.cons (Ci h (hl i (mX ..))) (qB h l λj hj=>hl j (mZ _ hj))
theorem oh (h:aX vs us):∀(l:List Nat),(∀i∈l,i<vs.length)->aX (l.map λi=>vs.getD i .non) (l.map λi=>us.getD i Value.none)
 |[],_=>.nil
 |i::l,hl=>.cons (yR h (hl i (mX ..))) (oh h l λj hj=>hl j (mZ _ hj))
end
section
variable {X:Cx}
theorem Cj {K:PySem.W.Frag}{B:Hp}:∀ {vs:List V}{ds:List D}{ns:List Int}{its:List Value},aX vs its->IsL K B vs ds->mJ ds=some ns->IntsAre its ns
 |_,_,_,_,.nil,.nil,h=>by simp only[mJ]at h;cases h;exact .nil
 |_,_,_,_,.cons r rr,.cons i ii,h=>by
  cases i<;>simp only[mJ]at h<;>try (cases h;done)
  obtain⟨t,h2,h⟩:=oY h;subst h;obtain⟨u,rfl⟩:=r;exact .cons _ u (Cj rr ii h2)
theorem uu:∀ {its:List Value}{zs:List Str},StrsAre its zs->aX (zs.map V.str) its
 |_,_,.nil=>.nil
 |_,_,.cons x t r=>.cons ⟨t,rfl⟩ (uu r)
theorem ij:∀ {its:List Value}{zs:List Int},IntsAre its zs->aX (zs.map V.int) its
 |_,_,.nil=>.nil
 |_,_,.cons x t r=>.cons ⟨t,rfl⟩ (ij r)
theorem mL {K:PySem.W.Frag}{N:Hp}:∀(zs:List Int),IsL K N (zs.map V.int) (zs.map D.int)
 |[]=>.nil
 |z::zs=>.cons (.int z) (mL zs)
theorem yS (p:l'.Perm l)(h:l'.Pairwise (·<=·)):l'=kg l:=by
 refine gL _ (λx _ y _ e=>by injection e) p (h.imp λ{a b} hab=>?_);unfold Gq;intro z;rw[List.cons_lt_cons_iff]at z;rcases z with z|⟨_,z⟩
 ·omega
 ·exact List.lt_irrefl _ z
theorem lW (I:Inv X ae σ H s)(sB:aV B H)(q:Fin X.K B H (.lst ds) true Q)(hv:aX ys out.toList)(hl:IsL X.K B ys ds)(hz:ys.length<=sizeLine):
  EP X ae σ Q (.ref (s.heap.objs.size+1)) { s with heap:=sortedAll s.heap its out }:=by
 obtain⟨e,he⟩:=sortedAll_at s.heap its out;have hp:H (s.heap.objs.size+1)=none:=I.hok.fresh (Nat.le_succ _);have xt:=Ext.laid (o:=.lst ys) sB hp;exact⟨.ref _,_,I.laid (t':=s.toks) (λb o=>sortedAll_old) (Nat.le_succ _) (show bR X.prog X.w _ _ _ (.lst ys)from ⟨hz,out.toList,e,hv,he⟩),rfl,
  q _ _ _ xt (.lst (iP.of aG) (hl.mono xt.bn)) λ_=>⟨_,_,_,rfl,rfl,hp,aG,hl.mono xt.bn⟩⟩
theorem yT:bT X (.builtin "sorted") (A6 X.K eN):=by
 intro ae s σ H xs us Q I r h;obtain⟨B,dl,d,bb,sB,i,ee,q⟩:=h;cases i with
 |nil=>simp[eN]at ee
 |cons i1 i2=>
  cases i2 with
  |cons _ _=>cases i1<;>simp[eN]at ee
  |nil=>
   cases i1<;>try (simp[eN]at ee;done)
   rename_i l0 vs ds h hl;obtain⟨u,rfl,rx⟩:=gZ r;cases rx
   obtain⟨its,r',pl,hz⟩:=I.list (sB.seq h);have Aa:vs.length=its.length:=r'.length;have Iy:ds.length=vs.length:=hl.length.symm;simp only[eN]at ee;split at ee
   ·rename_i ss es;split at ee
    ·rename_i vx;cases ee
     have jW:=jx r' hl es;have UP:its.length=ss.length:=by rw[←jW.strs,vI]
     refine sorted_strs pl.isList (by simpa using jW) (by omega) λout Ml a1 a2 a3=>?_;have e:=um a2 a3;subst e;exact lW I sB q (uu a1) (mF _) (by rw[vI,(fw ss).length_eq,sizeLine_eq];omega)
    ·cases ee
   ·split at ee
    ·rename_i ns es;split at ee
     ·rename_i vx;cases ee
      have jW:=Cj r' hl es;have UP:its.length=ns.length:=IntsAre.length jW;refine sorted_ints pl.isList (by simpa using jW) (by omega) λout Ml a1 a2 a3=>?_;have e:=yS a2 a3;subst e;exact lW I sB q (ij a1) (mL _) (by rw[vI];unfold kg;rw[(bv _ ns).length_eq,sizeLine_eq];omega)
     ·cases ee
    ·split at ee
     ·rename_i ks es;split at ee
      ·rename_i hh;obtain⟨vx,hc,hf⟩:=hh;cases ee
       have SQ:=fL es;have jW:=mK I r' (hl.mono sB) es;refine yP pl.isList (by simpa using jW) hc hf (by omega) λp ap up=>?_;have lL:its.length=ds.length:=by omega
       rw[lL]at ap up;have e:=AY es hc ap up;have ET:∀i∈p.toList,i<ds.length:=λi hi=>List.mem_range.mp (ap.perm.mem_iff.mp hi);have il:=qB hl p.toList ET;rw[e]at il;refine lW I sB q (ys:=p.toList.map λi=>vs.getD i .non) ?_ il ?_
       ·simpa using oh r' p.toList λi hi=>by rw[←Iy];exact ET i hi
       ·rw[vI,vG,ap.size,sizeLine_eq];omega
      ·cases ee
     ·cases ee
end
end DL
namespace DL
open PySem PySem.Spec PyProof.Rows L2
section
variable {X:Cx}{pos:Pos}
@[simp] def X3 (i:Nat)(f:FE):FS:=λρ=>match ρ[i]? with
 |some (some (.lst ds,true))=>(f ρ).bind λx=>(mJ ds).bind λns=>match x.1 with
  |.int n=>if ns.findIdx (· == n)<ns.length then some (.nx (ρ.set i (some (.lst ((ns.eraseIdx (ns.findIdx (· == n))).map .int),true))))else none
  |_=>none
 |_=>none
end
section
variable {prog:Program}{w:World}{A:Around}{E:Value->Shared->Prop}{s:Shared}
theorem AZ {a:Addr}{o:Obj}{its:Array Value}{n:Nat}{x:Value}{e:Value->Bool}{j:Nat}{P:PySem.Fin->Shared->Prop}(ho:s.heap.get? a=some o)(hd:o.data=.seq its n)
  (he:∀y∈its,MeetsSeq.EqGives y x (e y)) (hj:j<its.size) (EV:e its[j]=true) (Po:∀m (hm:m<its.size),m<j->e its[m]=false)
  (h:P (.done (.ret (.int j s.toks))) { s with toks:=s.toks+1 }):wpAny (model prog w) A (Builtin.«tuple.index» ⟨[.ref a,x],[]⟩) P E s:=by
 show wpAny _ _ (Builtin.Tuple.tupleItemsOf (.ref a)>>=_) _ _ s;refine wX (wpAny_tupleItemsOf ho hd ?_);dsimp only;refine wX (wY (wX (wY (wX ?_))));rw[Std.Legacy.Range.forIn_eq_forIn_range'];refine wpAny_forIn_list _
  (λaF r s'=>r.1=none/\s'=s/\∃i,i<=j/\aF=List.range' i (its.size - i))
  _ ?_ ?_ _ _ ⟨rfl,rfl,0,uN _,?_⟩
 ·rintro k aF r s' ⟨hr,rfl,i,hi,hz⟩;have fN:i<its.size:=by omega
  obtain⟨m,hm⟩:∃m,its.size - i=m+1:=⟨its.size - i - 1,by omega⟩;rw[hm,List.range'_succ]at hz;injection hz with z1 z2;have z1:=z1.symm;subst z1;subst z2;have hg:its[i]? = some its[i]:=by simp[fN]
  simp only[hg];refine wX (he _ (Array.getElem_mem fN) prog w _ _ _ _ ?_);by_cases Ad:i=j
  ·subst Ad;rw[EV];simp only[if_true];refine wX ?_;show wpAny _ _ (mkInt (i:Int)>>=λv=>ret v) _ _ _;exact wX (wpAny_mkInt (wY (wY (wY h))))
  ·rw[Po i fN (by omega)];simp only[uV,if_false];exact wY ⟨rfl,rfl,i+1,by omega,by rw[show its.size - (i+1)=m by omega]⟩
 ·rintro⟨r1,r2⟩ s' ⟨hr,rfl,i,hi,hz⟩;exfalso;have:(List.range' i (its.size - i)).length=0:=by rw[←hz];rfl
  rw[List.length_range']at this;omega
 ·simp
end
theorem CRows.findT {K:PySem.W.Frag}{P:Params}(y:Str){ds:List D}:∀ {es:List DictEntry}{aI:List (Str×D)},CRows K P es aI->aI.lookup y=some (.tup ds) ->
  ∃e a its n pz,es.find? (λe=>Value.isStrOf y e.key)=some e/\e.val=.ref a/\K.lookup a=some ⟨.type "tuple",none,.seq its n,pz⟩/\jM its.toList ds=true
 |_,_,.nil,h=>by simp at h
 |_,_,.tup (x:=x) (t:=t) (a:=a) (ds:=KR) hh l f tl,h=>by
  by_cases e:y=x
  ·subst e;rw[List.lookup_cons_self]at h;cases h
   rw[vC]at f;exact⟨_,a,_,_,_,List.find?_cons_of_pos (by simp[Value.isStrOf]),rfl,l,f.2⟩
  ·rw[List.lookup_cons,beq_eq_false_iff_ne.mpr e]at h;have nf:Value.isStrOf y (Value.str x t)=false:=by
    rw[Bool.eq_false_iff];intro z;obtain⟨t',q⟩:=Value.isStrOf_shape z;injection q with q1;exact e q1.symm
   simp only[List.find?_cons,nf];exact tl.findT y h
 |_,_,.flat (x:=x) (t:=t) (u:=u) (d:=d) hh f tl,h=>by
  by_cases e:y=x
  ·subst e;rw[List.lookup_cons_self]at h;cases h
   cases u<;>simp[wF]at f
  ·rw[List.lookup_cons,beq_eq_false_iff_ne.mpr e]at h;have nf:Value.isStrOf y (Value.str x t)=false:=by
    rw[Bool.eq_false_iff];intro z;obtain⟨t',q⟩:=Value.isStrOf_shape z;injection q with q1;exact e q1.symm
   simp only[List.find?_cons,nf];exact tl.findT y h
section
variable {X:Cx}{b e:Expr}{pos:Pos}{x:Str}{p:Pos}
def TQ (K:PySem.W.Frag):V->List V->Hp->VK->Prop:=λx xs H Q=>∃(a:Addr)(o:Obj)(its:Array Value)(n:Nat)(zs:List Str)(y:Str),x=.ref a/\xs=[.str y]/\K.lookup a=some o/\o.cls=.type "tuple"/\o.data=.seq its n/\StrsAre its.toList zs/\zs.findIdx (· == y)<zs.length/\Q (.int (zs.findIdx (· == y):Nat)) H
noncomputable def LL (y:Str):Value->Bool
 |.str z _=>z == y
 |_=>false
theorem Ck:∀ {its:List Value}{zs:List Str},StrsAre its zs->∀(i:Nat)(hi:i<its.length),∃(h:i<zs.length)(t:Tok),its[i]=.str zs[i] t
 |_,_,.cons z t h,0,_=>⟨by simp,t,rfl⟩
 |_,_,.cons z t h,i+1,hi=>by
  obtain⟨h',t',e⟩:=Ck h i (by simpa using hi);exact⟨by simpa using h',t',by simpa using e⟩
 |_,_,.nil,i,hi=>by simp at hi
theorem yU:∀ {its:List Value}{zs:List Str},StrsAre its zs->its.length=zs.length
 |_,_,.nil=>rfl
 |_,_,.cons _ _ h=>by rw[vE,vE,yU h]
theorem Gu:IY X "tuple.index" (TQ X.K):=by
 intro ae s σ H x xs v us Q I rx rv h;obtain⟨a,o,its,n,zs,y,rfl,rfl,lk,hc,hd,hz,hk,q⟩:=h;cases rx
 obtain⟨u,rfl,⟨t,rfl⟩⟩:=rv.one;have ho:=I.kIn a o lk;have hl:=yU hz;rw[vG]at hl;have at':∀(i:Nat)(hi:i<its.size),∃(h:i<zs.length)(t:Tok),its[i]=.str zs[i] t:=λi hi=>by
  obtain⟨h',t',e⟩:=Ck hz i (by simpa using hi);exact⟨h',t',by simpa using e⟩
 refine wpAny_call_entry PySem.F.slot_tuple_index ⟨o,ho,hc⟩ PySem.F.entry_tuple_index (AZ (e:=LL y) (j:=zs.findIdx (· == y)) ho hd (λz hm=>?_) (by omega) ?_ (λm hm fN=>?_) ⟨_,rfl,.int (zs.findIdx (· == y):Nat),H,I.tok _,⟨_,rfl⟩,q⟩) (PySem.F.args_tuple_index_2 _ _)
 ·obtain⟨i,hi,rfl⟩:=Array.mem_iff_getElem.mp hm;obtain⟨_,t',e'⟩:=at' i hi;rw[e'];exact eqGives_str _ _ _ _
 ·obtain⟨_,t',e'⟩:=at' (zs.findIdx (· == y)) (by omega);rw[e'];exact List.findIdx_getElem (p:=(· == y)) (w:=hk)
 ·obtain⟨_,t',e'⟩:=at' m hm;rw[e'];have:=List.not_of_lt_findIdx (p:=(· == y)) (xs:=zs) fN;simpa [LL]using this
@[simp] def pC (aI:List (Str×D)):D->D->Option (D×Bool)
 |.str y,.str z=>match aI.lookup y with
  |some (.tup ds)=>(ga ds).bind λzs=>if zs.findIdx (· == z)<zs.length then some (.int (zs.findIdx (· == z):Nat),false)else none
  |_=>none
 |_,_=>none
theorem JJ {aI:List (Str×D)}{f g:FE}{dM cM:Pos}(h:∃d,X.mg x=some (.ref d)/\ua X.K X.w.params d aI)(hb:JE X b f)(he:JE X e g)(hg:Gl X x:=by rfl)(sM:(x == ("__debug__" : Str))=false:=by decide)(hs:wj b:=by intro _ _;rfl)
  (iM:attributeBase (.Subscript (.Name x p) b pos) "index" X.env (eval (.Subscript (.Name x p) b pos) X.env)=eval (.Subscript (.Name x p) b pos) X.env:=by rfl)
  (B9:((backTo cM (starEach [e] X.env)).all (λx=>!x.1) && (backToKw cM (keywordEach [] X.env)).all (λx=>x.1.isSome)
   && decide ([e].length+([]:List Keyword).length+(if([]:List Keyword).isEmpty then 0 else 1)<30))=true:=by rfl)
  (iN:(dM.endLine == cM.line)=true:=by rfl) (jW:starEach [e] X.env=[(false,eval e X.env)]:=by rfl):
  JE X (.Call (.Attribute (.Subscript (.Name x p) b pos) "index" dM) [e] [] cM) (f2 (pC aI) f g):=by
 obtain⟨d,hm,cd⟩:=h;have ix:Im X (λx y H Q=>∃z ds,x=.ref d/\y=.str z/\aI.lookup z=some (.tup ds)/\∀a its n pz,X.K.lookup a=some ⟨.type "tuple",none,.seq its n,pz⟩->jM its.toList ds=true->Q (.ref a) H):=by
  intro value slice ae s σ H x y v u Q I rx ry q hs;obtain⟨z,ds,rfl,rfl,el,q⟩:=q;cases rx
  obtain⟨t,rfl⟩:=ry;obtain⟨es,n,l,r,sm⟩:=cd;have hM:=PySem.W.mapOf_K (prog:=X.prog) (w:=X.w) I.kIn l r.lit;obtain⟨en,a,its,n',pz,e1,e2,e3,e4⟩:=r.findT z el;have ff:findBy Value.isStrOf es z=some (.ref a):=by
   unfold findBy;obtain⟨es⟩:=es;rw[List.find?_toArray,e1,←e2];rfl
  exact tail_any hM.typeIs slot_dict_getitem.lookup (wpAny_getItem_of (strKind_is X.prog X.w z t) hM ff ⟨.ref a,H,I.tok _,rfl,q a _ _ _ e3 e4⟩) hs
 refine PE.to (Fm (T:="tuple") PySem.F.plainAttrs_tuple PySem.F.slot_tuple_index PySem.F.type_tuple_index Gu (Ln ix (BC (v:=.ref d) hg hm rfl sM) hb hs) (iT he kx jW) iM B9 iN jW rfl) λσ H Q q=>?_;obtain⟨B,ρ,d',bb,sB,r,ee,q⟩:=q;obtain⟨x1,ex,ee⟩:=oX ee;obtain⟨y1,ey,ee⟩:=oX ee;obtain⟨xd,xb⟩:=x1;obtain⟨yd,yb⟩:=y1;cases xd with
 |str z=>
  cases yd with
  |str y=>
   refine⟨B,ρ,_,xb,sB,r,ex,λv H1 N1 xt i1 _=>?_⟩;cases i1
   simp only[pC]at ee;split at ee
   ·rename_i ds el;obtain⟨zs,ez,ee⟩:=oX ee;split at ee
    ·rename_i hk;cases ee
     refine⟨z,ds,rfl,rfl,el,λa its n pz l fl=>⟨.inr (.inl ⟨rfl,_,l,rfl,rfl⟩),N1,ρ,_,yb,xt.nh,r.mono xt.bn,ey,λv2 H2 N2 R6 i2 _=>?_⟩⟩;cases i2
     obtain⟨vs,rv,iv⟩:=jN (K:=X.K) fl;exact⟨a,_,its,n,zs,y,rfl,rfl,l,rfl,rfl,jx rv (iv N2) ez,hk,(q.into (xt.trans R6)).one R6.nh (.int _)⟩
    ·cases ee
   ·cases ee
  |_=>simp[pC]at ee
 |_=>simp[pC]at ee
end
open PySem.W (tabIn tabObj CodeHd kla_fn kla_obj kla_eval kla_makeFunction kla_makeFunctionHit kla_callFunE kla_codeExpr envX)
def QN (K:PySem.W.Frag)(c P:Addr):Prop:=∃o vs EG tf vy tg Pz EH tt,K.lookup c=some o/\o.cls=.type "code"/\o.data=.fields vs/\vs[11]? = some (.ref P)/\vs.getD 11 .none=.ref P/\vs.getD 18 .none=.str EG tf /\
 vs.getD 7 .none=.int vy tg/\vs.getD 9 .none=.bool Pz/\vs.getD 10 .none=.int EH tt/\c≠P
def Ba (K:PySem.W.Frag)(x:Str):Prop:=∃c P,tabIn K x=some (c,P)/\QN K c P
def Gv (H:Hp)(f:Addr)(q:Str)(params:Arguments)(body:Expr)(scope:Scope)(cl:List (Str×Addr)):Prop :=
 ∃pm c Dm u oc u' vs t,H f=some (.frz (kla_obj "<lambda>" q params body scope cl pm c Dm) u)/\H c=some (.frz oc u')/\oc.data=.fields vs/\vs[1]? = some (.str q t)
theorem Gv.mono (h:Gv H f q params body scope cl)(e:aV H H'):Gv H' f q params body scope cl :=
 let ⟨pm,c,Dm,u,oc,u',vs,t,h1,h2,h3,h4⟩:=h;⟨pm,c,Dm,u,oc,u',vs,t,e _ _ h1,e _ _ h2,h3,h4⟩
theorem lam_mk {K:PySem.W.Frag}{x:Str}{f c P:Addr}{oc:Value}{od U9:Option Addr}{pz O3:Array (Option Value)}{fd:FuncData}{vs:Array Value}{EG:Str}{tf tg tt:Tok}{vy EH:Int}{Pz:Bool}(e1:PySem.W.nsIn K mainGlobals x=some (some (.ref f)))(e2:K.lookup f=some ⟨oc,od,.func fd,pz⟩)
  (e3:fd.code=.ref c) (e4:K.lookup c=some ⟨.type "code",U9,.fields vs,O3⟩) (e5:vs[11]? = some (.ref P)) (e6:vs.getD 11 .none=.ref P) (e7:vs.getD 18 .none=.str EG tf) (e8:vs.getD 7 .none=.int vy tg) (e9:vs.getD 9 .none=.bool Pz) (YO:vs.getD 10 .none=.int EH tt) (WG:(c == P)=false):Ba K x :=
 ⟨c,P,tab_yes e1 e2 e3 e4 e5,_,vs,EG,tf,vy,tg,Pz,EH,tt,e4,rfl,rfl,e5,e6,e7,e8,e9,YO,λz=>by rw[z]at WG;simp at WG⟩
theorem Bb (l:List Value)(h:TriplesOk l)(e:codeAmong pos (l++[rawInt a,rawInt b,c])=some cv):codeAmong pos l=some cv∨cv=c:=by
 fun_induction TriplesOk l with
 |case1=>
  simp only[List.nil_append,rawInt,codeAmong]at e;split at e
  ·cases e;exact .inr rfl
  ·cases e
 |case2 a' t b' u x aF ih=>
  simp only[List.cons_append,codeAmong]at e ⊢;split at e
  ·rename_i hc;rw[if_pos hc];exact .inl e
  ·rename_i hc;rw[if_neg hc];exact ih h e
 |case3 l h1 h2=>exact h.elim
section
variable {X:Cx}{ae:List (Addr×Obj)}{σ:St}{H:Hp}{s:Shared}
theorem Gw 
  (hx:x∈m5) (L:Ba X.K x) (hc:∀c P,tabIn X.K x=some (c,P)->X.env.code=.ref c) (hq:X.env.qual ++ "<lambda>" = qd x) (OF:defaultsOf params X.env=([],[])) (sP:closureFor scope X.env=pure cl)
  (I:Inv X ae σ H s) (tb:Tb X.K H) (k:∀f H' s',Inv X ae σ H' s'->aV H H'->Gv H' f (qd x) params body scope cl->Q (.ref f) s'):
  wpAny (model X.prog X.w) X.A (eval (.Lambda params body scope pos) X.env) Q E s:=by
 refine kla_eval OF ?_;rw[hq];obtain⟨c,P,ht,o,vs,EG,tf,vy,tg,Pz,EH,tt,lk,ck⟩:=L;have Mm:=hc c P ht;have hP:=tb x hx c P ht;obtain⟨ps,e,tr,co⟩:=I.hok P _ hP;have C:CodeHd s.heap c P:=⟨o,vs,EG,tf,vy,tg,Pz,EH,tt,I.kIn c o lk,ck⟩;have hg:s.heap.Ns mainGlobals X.mg:=I.mod.glob.keeps I.bk;have nP:∀b,H b=none->b≠P:=λb n z=>by rw[z,hP]at n;cases n
 have YQ:mainGlobals≠P:=by
  obtain⟨og,_,_,eg,_⟩:=I.mod.glob;exact nP _ (I.bs _ _ eg).2
 have hb:s.heap.BuiltinsAt X.mg P:=by
  obtain⟨bm,ob,b1,b2,b3,b4,b5,b6⟩:=I.mod.bmain;refine⟨bm,ob,b1,b2,λz=>?_,nP _ (I.bs _ _ b3).2,I.bk _ _ b3,b4,b5,b6⟩;obtain⟨og,es,ep,eg,dg,_⟩:=I.mod.glob;rw[z,eg]at b3;cases b3;rw[dg]at b6;cases b6
 cases hf:codeAmong pos ps.toList with
 |some cv=>
  obtain⟨c',oc,u,ws,t,rfl,hH,hd,hv⟩:=co pos cv hf;refine kla_makeFunctionHit (mg:=X.mg) sP I.ok.glob hg Mm C e tr hf hb λDm h' tk hk hsz=>?_;have hn:H h'.objs.size=none:=I.hok.fresh hsz;have sm:aV H (upd H h'.objs.size (.frz (kla_obj "<lambda>" (qd x) params body scope cl ((X.mg "__name__").getD .none) c' Dm) (.own h'.objs.size))):=λb u q=>by rw[aK (aY q hn)];exact q
  refine k _ _ _ (I.laid (t':=tk) (λb u q=>vZ _ (hk b u q)) hsz (show bR X.prog X.w _ _ _ (.frz _ (.own h'.objs.size))from ⟨vY _ rfl,_,vY _ rfl⟩)) sm ?_;exact⟨_,c',Dm,_,oc,u,ws,t,aG,sm _ _ hH,hd,hv⟩
 |none=>
  refine kla_makeFunction (mg:=X.mg) sP I.ok.glob hg Mm C e tr hf YQ hb λc' Dm h' tk hx' hge fN hrec UQ=>?_;obtain⟨c2,oc,ws,t,e2,ER,hd,hv⟩:=hrec;cases e2
  have RF:H c'=none:=I.hok.fresh hge;have hsz:s.heap.objs.size<=h'.objs.size:=vR hge (Nat.le_of_lt fN);have YR:H h'.objs.size=none:=I.hok.fresh hsz;have YS:c'≠h'.objs.size:=vS fN;let fo:Obj:=kla_obj "<lambda>" (qd x) params body scope cl ((X.mg "__name__").getD .none) c' Dm;let H1:Hp:=upd (upd H c' (.frz oc (.own c'))) h'.objs.size (.frz fo (.own h'.objs.size));have sm:aV H H1:=λb u q=>by
   show upd _ _ _ b=_;rw[aK (aY q YR),aK (aY q RF)];exact q
  have UR:H1 c'=some (.frz oc (.own c')):=by show upd _ _ _ c'=_;rw[aK YS,aG]
  have keep:∀b u,b≠P->s.heap.get? b=some u->(h'.push fo).get? b=some u:=λb u n q=>vZ _ (hx' b u n q);have lt:∀b u,s.heap.get? b=some u->b≠c'/\b≠h'.objs.size:=λb u q=>⟨vS (vQ (vX q) hge),vS (vQ (vX q) hsz)⟩;have RG:(h'.push fo).get? P=some (tabObj (ps++#[rawInt pos.line,rawInt pos.col,.ref c'])):=vZ _ UQ;refine k _ H1 _ (I.un (t':=tk) (h':=h'.push fo) ⟨λb u q n _ _=>keep b u (nP b n) q,λb u q n _ _=>⟨u.slots,keep b u (nP b n) q⟩,λb u q n _=>?_,λb u q _=>?_,λb xs q=>sm _ _ q,λb ob u q=>sm _ _ q,λb u q=>sm _ _ q⟩ λb u q=>?_) sm ⟨_,c',Dm,_,oc,_,ws,t,aG,UR,hd,hv⟩
  ·show upd _ _ _ b=_;rw[aK (lt b u q).2,aK (lt b u q).1];exact n
  ·by_cases z:b=P
   ·subst z;exact⟨_,RG⟩
   ·exact⟨u,keep b u z q⟩
  ·by_cases z1:b=h'.objs.size
   ·subst z1;have q':some (HO.frz fo (.own h'.objs.size))=some u:=by rw[←q];exact aG.symm
    cases q'
    exact⟨vY _ rfl,_,vY _ rfl⟩
   ·by_cases z2:b=c'
    ·subst z2;rw[UR]at q;cases q;exact⟨vZ _ ER,_,vZ _ ER⟩
    ·have q':H b=some u:=by
      have:H1 b=H b:=by show upd _ _ _ b=_;rw[aK z1,aK z2]
      rw[←this];exact q
     by_cases z3:b=P
     ·subst z3;rw[hP]at q';cases q';refine⟨_,RG,?_,λzW cv' ea=>?_⟩
      ·rw[Array.toList_append];exact TriplesOk_snoc _ _ _ _ tr
      ·rw[Array.toList_append]at ea;rcases Bb _ tr ea with ea|rfl
       ·obtain⟨c3,YT,u3,YU,t3,y1,y2,y3⟩:=co zW cv' ea;exact⟨c3,YT,u3,YU,t3,y1,sm _ _ y2,y3⟩
       ·exact⟨c',oc,_,ws,t,rfl,UR,hd,hv⟩
     ·refine(I.hok b u q').stay (λd v E7 r=>keep d v ?_ r) (λd r=>sm _ _ r) (λd xs r=>sm _ _ r) λd ob v r=>sm _ _ r;rcases E7 with rfl|r
      ·exact z3
      ·intro z;rw[z,hP]at r;cases r
end
section
variable {P:Program}{w:World}{K:PySem.W.Frag}{mg:Str->Option Value}{base:Heap}
theorem dN.fnL {x:Str}{st:Stmt}{N ps:List Str}{k:Nat}{g:FS}{h:Heap}(F:dN K x st)(X:K.In h)(G:h.Ns mainGlobals mg)(S:FnScope N ps (aQ st))
  (KW:∀(kV doc pm:Value)(an:Option Addr)(eU ct:Value)(us:List Value),us.length=ps.length->bindArgs (PySem.W.fnOf x x (gB st) (cO st) (aQ st) .none kV doc pm an eU ct) ⟨us,[]⟩=pure (ps.zip us))
  (hb:∀(f:Addr)(eU:Value)(A:Around)(outer:List PySem.Env)(s:Shared)(H:Hp)(E:XK),(∀c P,tabIn K x=some (c,P)->eU=.ref c)->fg k (A.deeper (envOfC x (aQ st) s.heap.objs.size f eU))->xG (p7 Ak P w K mg base N x (aQ st) f eU A outer s H E).nox (cO st) g):
  Fn P w K mg base (k+1) x (aN g ps.length (N.length - ps.length)):=by
 obtain⟨f,fd,F1,a⟩:=F;have F2:=F1;obtain⟨oc,od,kV,doc,pm,an,eU,ct,pz,rfl,lk,jG⟩:=F2.ex;have hc:∀c P,tabIn K x=some (c,P)->eU=.ref c:=λc P e=>by
  unfold tabIn at e;simp only[a,lk]at e;split at e
  ·rename_i c' _;split at e
   ·split at e
    ·cases e;rfl
    ·cases e
   ·cases e
  ·cases e
 have len:∀vs H Q E,Ju K (aN g ps.length (N.length - ps.length)) vs H Q E->vs.length=ps.length:=λvs H Q E h=>by
  obtain⟨B,ds,d,b,sB,i,e,q⟩:=h;unfold aN at e;split at e
  ·rename_i hl;rw[i.length];exact hl
  ·cases e
 refine⟨f,_,ps,Lm lk jG S len λA outer s H vs Q E hr h=>⟨_,wa.nox (hb f eU A outer s H E hc hr),?_⟩,PySem.W.mg_of X G a,F1.kp,F1.binds KW⟩;have bK:=len vs H Q E h;obtain⟨B,ds,d,b,sB,i,e,q⟩:=h;unfold aN at e;rw[if_pos (by rw[←i.length];exact bK)]at e;have s0:=yg (N:=N) sB.1 sB.2 i;rw[bK]at s0;split at e
 ·rename_i d' b' eg;cases e
  exact⟨B,H,_,_,⟨B,s0⟩,eg,λv H' N' x' i' f'=>q v H' N' x' i' f'⟩
 ·rename_i ρ' eg;cases e
  exact⟨B,H,_,_,⟨B,s0⟩,eg,λσ' H' ⟨N',s'⟩=>q .non H' N' s'.ext .non (by simp)⟩
 ·cases e
end
inductive lN (X:Cx)(N':List Str)(scope:Scope)(cl:List (Str×Addr)):Nat->List Nat->Prop where
 |nil {j:Nat}(h:N'.length=j):lN X N' scope cl j []
 |cons {j i:Nat}{r:List Nat}{x:Str}(h1:N'[j]? = some x) (h2:X.N[i]? = some x) (h3:X.env.kindOf x=some .cell∨X.env.kindOf x=some .free)
   (h4:scope.names.lookup x=some .free) (h5:cl.lookup x=X.env.cells.lookup x) (t:lN X N' scope cl (j+1) r):lN X N' scope cl j (i::r)
theorem lN.len:∀ {j:Nat}{cap:List Nat},lN X N' scope cl j cap->N'.length=j+cap.length
 |_,_,.nil h=>by rw[h];rfl
 |j,i::r,.cons _ _ _ _ _ t=>by rw[t.len,vE];omega
theorem lN.get:∀ {j:Nat}{cap:List Nat}{k i:Nat},lN X N' scope cl j cap->cap[k]? = some i->∃x,N'[j+k]? = some x/\X.N[i]? = some x/\(X.env.kindOf x=some .cell∨X.env.kindOf x=some .free) /\
  scope.names.lookup x=some .free/\cl.lookup x=X.env.cells.lookup x
 |_,_,_,_,.nil _,e=>by simp at e
 |j,_,0,_,.cons h1 h2 h3 h4 h5 _,e=>by simp at e;subst e;exact⟨_,h1,h2,h3,h4,h5⟩
 |j,_,k+1,i,.cons _ _ _ _ _ t,e=>by
  obtain⟨x,q,r⟩:=t.get (k:=k) (i:=i) (by simpa using e);exact⟨x,by rw[show j+(k+1)=j+1+k by omega];exact q,r⟩
noncomputable abbrev yV (X:Cx)(N':List Str)(scope:Scope)(cl:List (Str×Addr))(q:Str)(A:Around)(f c:Addr)(s:Shared)(H:Hp):Cx :=
 { X with A:=A.deeper (envX q scope s.heap.objs.size f (.ref c) cl),N:=N',s₀:=s,H₀:=H,env:=envX q scope s.heap.objs.size f (.ref c) cl,outer:=X.stack,stack:=envX q scope s.heap.objs.size f (.ref c) cl::X.stack,ex:=[],fn:=λ_=>false,calm:=true,pn:=[],xe:=λ_ _=>False }
structure LamSc (X:Cx)(scope:Scope)(cl:List (Str×Addr))(y:Str):Prop where
 clos:closureFor scope X.env=pure cl
 nocell:∀z∈scope.names,z.2≠.cell
 kind:scope.kind=.function
 co:scope.isCoroutine=false
 gen:scope.isGenerator=false
 par:scope.names.lookup y=some .local
 sub:∀x c,cl.lookup x=some c->X.env.cells.lookup x=some c
 has:∀x,scope.names.lookup x=some .free->∃c,cl.lookup x=some c
theorem Cm (h1:∀z∈scope.names,z.2≠.cell)(h2:scope.kind=.function)(h3:scope.isCoroutine=false)(SR:scope.isGenerator=false)(hp:scope.names.lookup y=some .local)
  (Pp:(scope.names.all λz=>!(z.2 == NameKind.free) || (X.env.cells.lookup z.1).isSome)=true):LamSc X scope (dW scope.names X.env.cells []) y:=by
 have h4:∀z∈scope.names,z.2=.free->(X.env.cells.lookup z.1).isSome=true:=λz hz e=>by
  have:=uR Pp z hz;rw[e]at this;simpa using this
 exact⟨tW scope.names [] h4,h1,h2,h3,SR,hp,λx c e=>m7 scope.names [] (λy d q=>by cases q) e,λx h=>by
  have:=m8 (x:=x) scope.names [] (gh h) (h4 _ (gh h) rfl);exact uU this⟩
section
variable {X:Cx}{ae:List (Addr×Obj)}{σ:St}{H:Hp}{s:Shared}{A:Around}{N':List Str}{scope:Scope}{cl:List (Str×Addr)}{q y:Str}{cap:List Nat}
theorem JL (S:LamSc X scope cl y)(N0:N'[0]? = some y)(cp:lN X N' scope cl 1 cap)(I:Inv X ae σ H s)(hA:A.frames=some X.stack)(hh:A.handled=none)(r:ba v u)
  (Pq:h₁.Ns s.heap.objs.size (λx=>[(y,u)].reverse.lookup x)) (hk:∀b o,s.heap.get? b=some o->h₁.get? b=some o):
  Inv (yV X N' scope cl q A f c s H) [] (some v::tm 0 cap σ) H { s with heap:=h₁,toks:=tk }:=by
 have KJ:∀b:Addr,b∉(yV X N' scope cl q A f c s H).ex:=λb z=>absurd (show b∈([]:List Addr)from z) (by simp);refine⟨⟨I.ok.mod,S.kind,rfl,rfl,vT _,λx z d e1 e2=>I.ok.inj x z d (S.sub _ _ e1) (S.sub _ _ e2),λx hx=>?_,(λx d e=>by cases e),λ_=>hh,Around.frames_deeper hA,.inr ⟨rfl,rfl⟩,λb z=>absurd z (KJ b),I.bs,vR I.ok.bsz I.sz,λb _ _=>KJ b,λb z=>absurd z (KJ b),I.stack,I.stkFree⟩,
  rfl,I.bare,Un.kept hk,⟨_,Pq,λi x v' e1 e2 e3=>?_⟩,λx d e=>?_,I.hok.fresh (vT _),λx d e=>I.freeC x d (S.sub _ _ e),λp hp=>absurd (show p∈([]:List (Addr×Obj))from hp) (by simp),I.hok.kept hk,?_⟩
 ·have hx':scope.names.lookup x=some .cell∨scope.names.lookup x=some .free:=hx;rcases hx' with hx'|hx'
  ·exact absurd rfl (S.nocell _ (gh hx'))
  ·exact S.has x hx'
 ·cases i with
  |zero=>
   have Mg:N'[0]? = some x:=e1;rw[N0]at Mg;cases Mg;have US:some v=some v':=by simpa using e2
   cases US
   exact⟨u,r,.inl ⟨S.par,by simp⟩⟩
  |succ k=>
   have US:(tm 0 cap σ)[k]? = some (some v'):=by simpa using e2
   obtain⟨k',i',fP,g1,g2⟩:=wy US;have:k=k':=by omega
   subst this;obtain⟨x',n1,n2,n3,n4,n5⟩:=cp.get g1;have:x'=x:=by
    have Mg:N'[k+1]? = some x:=e1;rw[show 1+k=k+1 by omega]at n1;rw[n1]at Mg;exact vK Mg
   subst this;have YV:σ[i']? = some (some v'):=by
    cases z:σ[i']? with
    |none=>rw[z]at g2;cases g2
    |some w=>rw[z]at g2;cases w with
     |none=>cases g2
     |some w=>cases g2;rfl
   obtain⟨m,_,hl⟩:=I.loc;obtain⟨u',ru,lk⟩:=hl i' x' v' n2 YV (by
    rcases n3 with n3|n3
    ·exact .inr (.inl n3)
    ·exact .inr (.inr n3))
   refine⟨u',ru,.inr ⟨.inr n4,?_⟩⟩;rcases lk with⟨l1,_⟩|⟨_,d,l2,l3⟩
   ·rcases n3 with n3|n3<;>(rw[l1]at n3;cases n3)
   ·obtain⟨ob,ho,hd⟩:=l3;exact⟨d,by show cl.lookup x'=_;rw[n5];exact l2,ob,hk _ _ ho,hd⟩
 ·obtain⟨w,ob,ho,hd⟩:=I.cell x d (S.sub _ _ e);exact⟨w,ob,hk _ _ ho,hd⟩
 ·have:=cp.len;show(some v::tm 0 cap σ).length=N'.length;unfold tm;rw[this];simp;omega
theorem JM (S:LamSc X scope cl y)(N0:N'[0]? = some y)(cp:lN X N' scope cl 1 cap)(I:Inv X ae σ H s)
  (hA:A.frames=some X.stack) (hh:A.handled=none) (HU:A.depth<recursionLimit) (lv:Gv H f q params body scope cl)
  (Ab:∀pm c Dm u,bindArgs (kla_fn "<lambda>" q params body scope cl pm (.ref c) Dm) ⟨[u],[]⟩=pure [(y,u)])
  (hb:∀(f c:Addr)(s:Shared)(H:Hp),JE (yV X N' scope cl q A f c s H) body fb)
  (rep:fM X.K B σ ρ) (sB:aV B H) (r:ba v u) (i:Is X.K B v d) (e:fb (some (d,false)::cH 0 cap ρ)=some (d',b')) (qf:Fin X.K B H d' b' Q):
  wpAny (model X.prog X.w) A (call (.ref f) [u]) (EP X ae σ Q) (λ_ _=>False) s:=by
 obtain⟨pm,c,Dm,uf,oc,u',ws,t,hf,hc,hd,hv⟩:=lv;have ho:=(I.hok f _ hf).1;have ER:=(I.hok c _ hc).1;refine wpAny_call (codeAny_mono (R:=λr s'=>CR Ak X.stack X.prog X.w H s Q (λ_ _ _=>False) r s') ?_ λr s' hq=>?_)
 ·refine kla_callFunE HU ho rfl S.co S.gen rfl ⟨c,oc,ws,t,rfl,ER,hd,hv⟩ ?_;rw[Ab];refine wY (wpAny_newFunctionEnv S.nocell (λz hz=>by rw[uT hz];exact S.par) (λh₁ Pq hsb=>⟨I.nolimit.fresh _ hsb,?_⟩) S.kind);have RH:∀b o,s.heap.get? b=some o->h₁.get? b=some o:=λb o e=>hsb.extBut b o (vS (vX e)) (vZ _ e);have J:=JL (f:=f) (c:=c) (q:=q) (tk:=s.toks+1) S N0 cp I hA hh r Pq RH;refine kla_codeExpr (wpAny_mono (hb f c s H [] _ _ H Q J ⟨B,_,d',b',sB,⟨rep.tb,λj e0 b0 z=>?_⟩,e,qf⟩) (λw s' hw=>?_) λ_ _ z=>z.elim)
  ·cases j with
   |zero=>
    have z':some (d,false)=some (e0,b0):=by simpa using z
    cases z'
    exact⟨v,rfl,i⟩
   |succ j=>
    obtain⟨w,h1,h2⟩:=(rep.caps (nT:=0) (cap:=cap)).at' j e0 b0 (by simpa using z);exact⟨w,by simpa using h1,h2⟩
  ·obtain⟨v',H',J',rv,qv⟩:=hw;exact⟨v',H',J'.os,J'.bare,J'.base,J'.hok,rv,qv⟩
 ·cases r with
  |error e=>exact False.elim hq
  |ok fl=>
   cases fl with
   |ret w=>exact I.after hq
   |next=>exact False.elim hq
   |brk=>exact False.elim hq
   |cont=>exact False.elim hq
end
end DL
namespace DL
open PySem PySem.Spec PySem.W PyProof.Rows L2
section
variable {X:Cx}{ae:List (Addr×Obj)}{σ:St}{H:Hp}{s:Shared}{h':Heap}{t':Nat}
theorem oi (I:Inv X ((p,o)::ae) σ H s):∀x c,X.env.cells.lookup x=some c->c≠p:=λx c e z=>by
 have pf:=I.pin (p,o) (mY _ mX);obtain⟨v,ob,ho,hd⟩:=I.cell x c e;rw[z,pf.1]at ho;cases ho;exact pf.2.2.2.2 v hd
theorem kF (I:Inv X (p::ae) σ H s):Inv X ae σ H s:=I.pins_of λq hq=>I.pin q (mY _ (mZ _ hq))
theorem gM (I:Inv X ((p,o)::ae) σ H s)(h0:X.s₀.heap.objs.size<=p)(hp:∀q∈X.pn++ae,q.1≠p)(k:∀b u,b≠p->s.heap.get? b=some u->h'.get? b=some u)(e':h'.get? p=some o')(nc:∀v,o'.data≠.cell v):
  Inv X ((p,o')::ae) σ H { s with heap:=h',toks:=t' }:=by
 have pf:=I.pin (p,o) (mY _ mX);have J:=(kF I).turned (t':=t') k pf.2.1 pf.2.2.1 (.inr h0) (oi I) hp;refine J.pins_of λq hq=>?_;rcases vP hq with rfl|hq
 ·exact⟨e',pf.2.1,pf.2.2.1,pf.2.2.2.1,nc⟩
 ·exact J.pin q (mY _ hq)
theorem pJ (I:Inv X ae σ H s)(k:∀b u,s.heap.get? b=some u->h'.get? b=some u)(hs:s.heap.objs.size<=p)(e':h'.get? p=some o)(nc:∀v,o.data≠.cell v):Inv X ((p,o)::ae) σ H { s with heap:=h',toks:=t' }:=by
 have J:=I.kept (t':=t') k;refine J.pins_of λq hq=>?_;rcases vP hq with rfl|hq
 ·exact⟨e',I.hok.fresh hs,Nat.ne_of_gt (vQ I.lt hs),I.nofs hs,nc⟩
 ·exact J.pin q (mY _ hq)
theorem JN (I:Inv X ((p,o)::ae) σ H s)(h0:X.s₀.heap.objs.size<=p)(hp:∀q∈X.pn++ae,q.1≠p)(k:∀b u,b≠p->s.heap.get? b=some u->h'.get? b=some u)(eo:∃u,h'.get? p=some u)
  (new:bR X.prog X.w (upd H p ob) h' p ob):Inv X ae σ (upd H p ob) { s with heap:=h',toks:=t' }:=by
 have pf:=I.pin (p,o) (mY _ mX);have hn:=pf.2.1;have hn:H p=none:=hn;have cs:=oi I;refine(kF I).step (g':=s.gens) (d':=s.drawn) (ch:=[p]) (λb hb=>?_) (λb u _ _ hc e _=>k b u (λz=>hc (by simp[z])) e) (λb u _ _ hc e _=>⟨u.slots,k b u (λz=>hc (by simp[z])) e⟩) (λb u hc _ n=>by rw[aK (λz=>hc (by simp[z]))];exact n)
  (λb u hc e=>⟨u,k b u (λz=>hc (by simp[z])) e⟩) (λb xs e=>by rw[aK (aY e hn)];exact e) (λb u w e=>by rw[aK (aY e hn)];exact e) (λb q e=>by rw[aK (aY e hn)];exact e) (λm hm=>?_) (λb u e=>?_) I.bare
 ·have z:b=p:=by simpa using hb
  subst z;exact⟨.inr h0,pf.2.2.1,cs,hp⟩
 ·obtain⟨ol,es,ep,ho,r⟩:=hm;exact⟨ol,es,ep,k _ ol (λz=>pf.2.2.1 z.symm) ho,r⟩
 ·by_cases z:b=p
  ·subst z;rw[aG]at e;cases e;exact new
  ·rw[aK z]at e;refine(I.hok b u e).stay (λc v hc q=>k c v ?_ q) (λc q=>?_) (λc xs q=>?_) λc w xs q=>?_
   ·rcases hc with rfl|hc
    ·exact z
    ·exact aY hc hn
   ·rw[aK (aY q hn)];exact q
   ·rw[aK (aY q hn)];exact q
   ·rw[aK (aY q hn)];exact q
end
def Gx (X:Cx)(A:Around)(σ:St)(qv:Value)(B H1:Hp)(kf:D->Option D):Prop :=
 ∀(ae:List (Addr×Obj))(s:Shared)(H N:Hp)(v:V)(u:Value)(d d':D),Inv X ae σ H s->aV H1 H->aV B N->aV N H->Is X.K N v d->ba v u->kf d=some d' ->
  wpAny (model X.prog X.w) A (call qv [u]) (EP X ae σ λv' H'=>∃N',Ext N N' H H'/\Is X.K N' v' d') (λ_ _=>False) s
def JK (X:Cx)(A:Around)(e:Expr)(kf:Env->D->Option D):Prop:=∀(ae:List (Addr×Obj))(s:Shared)(σ:St)(H B:Hp)(ρ:Env)(Q:Value->Shared->Prop)(E:Value->Shared->Prop),Inv X ae σ H s->aV B H->fM X.K B σ ρ ->
 (∀qa H1 s1,Inv X ae σ H1 s1->aV H H1->Gx X A σ (.ref qa) B H1 (kf ρ)->Q (.ref qa) s1)->wpAny (model X.prog X.w) X.A (eval e X.env) Q E s
section
variable {X:Cx}{A:Around}
@[simp] def qC (cap:List Nat)(fb:FE):Env->D->Option D:=λρ d=>(fb (some (d,false)::cH 0 cap ρ)).map (·.1)
theorem wS (hx:x∈m5)(L:Ba X.K x)(hc:∀c P,tabIn X.K x=some (c,P)->X.env.code=.ref c)(hq:X.env.qual ++ "<lambda>" = qd x)
  (OF:defaultsOf params X.env=([],[])) (S:LamSc X scope (dW scope.names X.env.cells []) y) (N0:N'[0]? = some y) (cp:lN X N' scope (dW scope.names X.env.cells []) 1 cap) (hA:A.frames=X.A.frames) (hr:fg (k+1) A)
  (Ab:∀pm c Dm u,bindArgs (kla_fn "<lambda>" (qd x) params body scope (dW scope.names X.env.cells []) pm (.ref c) Dm) ⟨[u],[]⟩=pure [(y,u)])
  (hb:∀(f c:Addr)(s:Shared)(H:Hp),fg k (yV X N' scope (dW scope.names X.env.cells []) (qd x) A f c s H).A->JE (yV X N' scope (dW scope.names X.env.cells []) (qd x) A f c s H) body fb):JK X A (.Lambda params body scope pos) (qC cap fb):=by
 intro ae s σ H B ρ Q E I sB rep kk;refine Gw hx L hc hq OF S.clos I (rep.tb.mono sB) λf H1 s1 I1 sm lv=>kk f H1 s1 I1 sm ?_;intro HK s' H' N v u d d' I' m1 m2 m3 iv r e;simp only[qC]at e;obtain⟨⟨d2,b2⟩,e1,e2⟩:=oY e;cases e2
 exact JM S N0 cp I' (hA.trans I'.ok.frames) hr.hd hr.depth (lv.mono m1) Ab (λf c s H=>hb f c s H (hr.deeper _)) (rep.mono m2) m3 r iv e1 λv' H2 N2 x2 i2 _=>⟨N2,x2,i2⟩
@[simp] noncomputable def t8 (g:List D->Option (D×Bool)):Env->D->Option D:=λ_ d=>(g [d]).map (·.1)
theorem Cn (F:Fn X.prog X.w X.K X.mg X.base k x g)(hr:fg k A)(hA:A.frames=X.A.frames)(hg:Gl X x:=by rfl)(sM:(x == ("__debug__" : Str))=false:=by decide):JK X A (.Name x p) (t8 g):=by
 intro ae s σ H B ρ Q E I sB rep kk;obtain⟨ad,fd,ps,F1,hm,hk,hb⟩:=F.ex;refine wb I hg hm ?_ sM;refine kk ad H s I (.refl H) ?_;intro HK s' H' N v u d d' I' m1 m2 m3 iv r e;simp only[t8]at e;obtain⟨⟨d2,b2⟩,e1,e2⟩:=oY e;cases e2
 have sp:Ju X.K g [v] H' (λv' H2=>∃N',Ext N N' H' H2/\Is X.K N' v' d2) (λ_ _ _=>False):=⟨N,[d],d2,b2,⟨m3,rep.tb.mono m2⟩,.cons iv .nil,e1,λv' H2 N2 x2 i2 _=>⟨N2,x2,i2⟩⟩;have hl:[u].length=ps.length:=by have:=F1.len _ _ _ _ sp;simpa using this
 have e0:=I'.env0;have bb:=hb s' [u] I'.kIn (by simpa using hl);rw[uQ]at bb;refine wpAny_call (codeAny_mono (F1.run A X.stack s' H' ⟨[u],[]⟩ [u] [v] _ (λ_ _ _=>False) hr ⟨hA.trans e0.frames,e0.mod,e0.bs,e0.bsz,e0.funs,e0.frf,e0.hok,e0.bare⟩ bb (.cons r .nil) sp) λr s' hq=>?_);cases r with
 |error e=>exact False.elim hq
 |ok fl=>
  cases fl with
  |ret w=>exact I'.after hq
  |next=>exact False.elim hq
  |brk=>exact False.elim hq
  |cont=>exact False.elim hq
end
noncomputable def jO (f:D->Option D):List D->Option (List D)
 |[]=>some []
 |d::ds=>(f d).bind λx=>(jO f ds).map (x :: ·)
theorem i6:∀ {ds ks:List D},jO f ds=some ks->ks.length=ds.length
 |[],_,h=>by simp only[jO]at h;cases h;rfl
 |d::ds,_,h=>by
  simp only[jO]at h;obtain⟨a,h1,h⟩:=oX h;obtain⟨r,h2,h⟩:=oY h;subst h;simp[i6 h2]
theorem mM:∀ {ds ks:List D},jO f ds=some ks->∀ {i:Nat}{d:D},ds[i]? = some d->∃k,ks[i]? = some k/\f d=some k
 |[],_,h,i,d,e=>by simp at e
 |d::ds,_,h,0,e,q=>by
  simp only[jO]at h;obtain⟨a,h1,h⟩:=oX h;obtain⟨r,h2,h⟩:=oY h;subst h;simp at q;subst q;exact⟨a,by simp,h1⟩
 |d::ds,_,h,i+1,e,q=>by
  simp only[jO]at h;obtain⟨a,h1,h⟩:=oX h;obtain⟨r,h2,h⟩:=oY h;subst h;obtain⟨k,z1,z2⟩:=mM h2 (i:=i) (d:=e) (by simpa using q);exact⟨k,by simpa using z1,z2⟩
structure KK (X:Cx)(A:Around)(kd:List D->Option (List (List At)))(ok:List (List At)->Bool):Prop where
 len:∀ {ds:List D}{ks:List (List At)},kd ds=some ks->ks.length=ds.length
 ask:∀ {ae:List (Addr×Obj)}{σ:St}{H:Hp}{s:Shared}(_:Inv X ae σ H s) {ys:List V}{ds:List D}{ks:List (List At)}{its:List Value},aX ys its->IsL X.K H ys ds->kd ds=some ks->ok ks=true->dz ks=true ->
  (0<ks.length->∀ {E:Value->Shared->Prop}{Q:SortKind->Shared->Prop},Q (tuples' true) s->wpAny (model X.prog X.w) A (keyKind' its.toArray) Q E s) /\
  ∀(i j:Nat)(C:Bool->Shared->Prop)(s1:Shared),i<ks.length->j<ks.length->s1=s->(∀s',s'=s->C (qx (An ks) i j) s')->kas_ask X.prog X.w A (tuples' true) its i j C s1
theorem Gy:KK X A dA de:=⟨fL,λI _ _ _ _ r i e hf hc=>have hp:=mK I r i e;⟨λhn _ _ q=>yO hp hf hn q,Ch hc hp⟩⟩
section
variable {X:Cx}{ae:List (Addr×Obj)}{σ:St}{s:Shared}
theorem uw (r:ba x u):∀ {vs:List V}{us:List Value},aX vs us->aX (vs++[x]) (us++[u])
 |_,_,.nil=>.cons r .nil
 |_,_,.cons h t=>.cons h (uw r t)
theorem dC:∀v,(Obj.mk c od (.seq its n) sl).data≠.cell v:=λv z=>by cases z
theorem Bc 
  (I:Inv X ((a,seqObj "list" its.toArray n)::ae) σ H s) (h0:X.s₀.heap.objs.size<=a) (hp:∀q∈X.pn++ae,q.1≠a) (Mn:Gx X A σ qv B H kf) (rv:aX vs its) (iv:IsL X.K B vs ds) (sB:aV B H)
  (M:KK X A kd ok) (em:jO kf ds=some hU) (ek:kd hU=some ks) (hc:dz ks=true) (hf:ok ks=true) (vx:its.length<64)
  (h:∀(p:Array Nat)(s':Shared)(H' N:Hp),nM its.length p->Up (An ks) p its.length->Inv X ae σ (upd H' a (.lst (p.toList.map λi=>vs.getD i .non))) s'->Ext B N H H'->H' a=none->P (.done (.ret .none)) s'):
  wpAny (model X.prog X.w) A (ksk_tree a qv false) P E s:=by
 have pa:=I.pin (a,seqObj "list" its.toArray n) (mY _ mX)
 have Aa:vs.length=its.length:=rv.length
 have Iy:ds.length=vs.length:=iv.length.symm
 have WH:hU.length=ds.length:=i6 em
 have UT:ks.length=hU.length:=M.len ek
 have hz:its.length<=sizeLine:=by rw[sizeLine_eq];omega
 have hna:H a=none:=pa.2.1
 obtain⟨e1,KZ⟩:∃e1,(s.heap.update a (Obj.mapSeq λ_=>(#[]:Array Value))).get? a=some (seqObj "list" #[] e1):=⟨_,get?_update_seq pa.1 λ_=>#[]⟩
 have u1:=vW s.heap a (Obj.mapSeq λ_=>(#[]:Array Value))
 have I1:Inv X ((a,seqObj "list" #[] e1)::ae) σ H { s with heap:=s.heap.update a (Obj.mapSeq λ_=>(#[]:Array Value)) }:=gM (t':=s.toks) I h0 hp (λb u n q=>(u1.2 b n).trans q) KZ dC
 let h2:Heap:=(s.heap.update a (Obj.mapSeq λ_=>(#[]:Array Value))).push (seqObj "tuple" its.toArray 0)
 have I2:Inv X ((a,seqObj "list" #[] e1)::ae) σ H { s with heap:=h2 }:=I1.kept (t':=s.toks) λb u q=>vZ _ q
 let kS:Addr:=h2.objs.size
 have I3:Inv X ((kS,seqObj "list" #[] 0)::(a,seqObj "list" #[] e1)::ae) σ H { s with heap:=h2.push (seqObj "list" #[] 0) }:=pJ (s:={ s with heap:=h2 }) (t':=s.toks) I2 (λb u q=>vZ _ q) (vT _) (vY _ rfl) dC
 have k0:X.s₀.heap.objs.size<=kS:=I2.sz
 have kp:∀q∈X.pn++((a,seqObj "list" #[] e1)::ae),q.1≠kS:=λq hq=>vS (vX (I2.pin q hq).1)
 have kna:kS≠a:=λz=>kp (a,seqObj "list" #[] e1) (mY _ mX) z.symm
 unfold ksk_tree
 refine wX (listItems_at pa.1 rfl ?_)
 refine wX (listUpdate_at pa.1 rfl ?_ (by simpa using hz) (uN _))
 refine wX (seqEpoch_at KZ rfl ?_)
 refine wX (wpAny_newTuple ?_ (by show its.length<=sizeLine;exact hz))
 refine wX (wpAny_newList ?_ (uN _))
 refine wpAny_holding ?_
 show wpAny (model X.prog X.w) A (ksk_rest a qv false its.toArray e1 (.ref kS)) P E { s with heap:=h2.push (seqObj "list" #[] 0) }
 unfold ksk_rest
 refine wX (wpAny_rule ?_)
 rw[List.forIn_toArray]
 refine wX (ksk_fold (λi s'=>∃(H' N:Hp)(kA:Array Value)(e:Nat)(aI:List V),Inv X ((kS,seqObj "list" kA e)::(a,seqObj "list" #[] e1)::ae) σ H' s'/\Ext B N H H'/\aX aI kA.toList/\IsL X.K N aI (hU.take i)) its 0 _
  ⟨H,B,#[],0,[],I3,.refl sB,.nil,by simpa using IsL.nil⟩ ?step ?done)
 case step=>
  rintro j u s' hu ⟨H',N,kA,e,aI,J,x1,rk,ik⟩
  simp only[Nat.zero_add]at ik ⊢
  have hj:j<its.length:=(vV hu).1
  obtain⟨d,hd⟩:∃d,ds[j]? = some d:=⟨_,vU (by omega)⟩
  obtain⟨v,hv,OG⟩:=iv.get hd
  obtain⟨kd,RI,RJ⟩:=mM em hd
  obtain⟨u',Iz,ru⟩:=rv.get hv
  rw[hu]at Iz;cases Iz
  have kl:kA.size=j:=by
   have z1:=rk.length
   have z2:=ik.length
   rw[List.length_take]at z2
   rw[vG]at z1
   exact z1.symm.trans (z2.trans (Nat.min_eq_left (by omega)))
  refine wX (wpAny_attempt (wpAny_mono (Mn _ s' H' N v u d kd J x1.hh x1.bn x1.nh (OG.mono x1.bn) ru RJ) (λw tI hw=>?_) λ_ _ hF=>hF.elim))
  obtain⟨v',YW,J',YX,N',x2,i2⟩:=hw
  have pk:=J'.pin (kS,seqObj "list" kA e) (mY _ mX)
  obtain⟨c2,vw⟩:∃c2,(tI.heap.update kS (Obj.mapSeq (·.push w))).get? kS=some (seqObj "list" (kA.push w) c2):=⟨_,get?_update_seq pk.1 (·.push w)⟩
  have u2:=vW tI.heap kS (Obj.mapSeq (·.push w))
  refine wX (listUpdate_at pk.1 rfl ?_ (by rw[sizeLine_eq];omega) (vR (Nat.le_of_eq (Array.size_push ..)) (by rw[sizeLine_eq];omega)))
  refine wY ⟨rfl,YW,N',kA.push w,c2,aI++[v'],gM (t':=tI.toks) J' k0 kp (λb q n z=>(u2.2 b n).trans z) vw dC,x1.trans x2,?_,?_⟩
  ·rw[Array.toList_push];exact uw YX rk
  ·rw[List.take_add_one,RI];exact(ik.mono x2.bn).append (.cons i2 .nil)
 case done=>
  rintro s' ⟨H',N,kA,e,aI,J,x1,rk,ik⟩
  have WI:IsL X.K N aI hU:=by
   have z:hU.take (0+its.length)=hU:=List.take_of_length_le (by omega)
   rw[z]at ik;exact ik
  have pk:=J.pin (kS,seqObj "list" kA e) (mY _ mX)
  have YY:=J.pin (a,seqObj "list" #[] e1) (mY _ (mZ _ mX))
  have Ul:H' a=none:=YY.2.1
  have kz:kA.toList.length=its.length:=by rw[←rk.length,WI.length];omega
  have WJ:kA.size=its.length:=by rw[←vG];exact kz
  refine wX (listItems_at pk.1 rfl ?_)
  have WK:=M.ask J rk (WI.mono x1.nh) ek hf hc
  -- the end of the sort,for a permutation p
  have HY:∀(st:SortSt)(p:Array Nat),arrOf st=p.map (kas_item (kA.toList.toArray.zip its.toArray))->failedOf st=none->nM its.length p->Up (An ks) p its.length ->
    wpAny (model X.prog X.w) A (ksk_tail a false e1 (.ref kS) st) P E s':=λst p ea ef ap up=>by
   have eo:(arrOf st).map (·.2)=List.toArray (p.toList.map λi=>its.getD i Value.none):=kat_snds kz ea
   have ET:∀i∈p.toList,i<vs.length:=λi hi=>by
    have:=List.mem_range.mp (ap.perm.mem_iff.mp hi)
    omega
   obtain⟨c3,YZ⟩:∃c3,(s'.heap.update kS (Obj.mapSeq λ_=>(#[]:Array Value))).get? kS=some (seqObj "list" #[] c3):=⟨_,get?_update_seq pk.1 λ_=>#[]⟩
   have u3:=vW s'.heap kS (Obj.mapSeq λ_=>(#[]:Array Value))
   have J3:=kF (gM (t':=s'.toks) J k0 kp (λb q n z=>(u3.2 b n).trans z) YZ dC)
   have UU:=J3.pin (a,seqObj "list" #[] e1) (mY _ mX)
   obtain⟨c4,WL⟩:∃c4,((s'.heap.update kS (Obj.mapSeq λ_=>(#[]:Array Value))).update a (Obj.mapSeq λ_=>(arrOf st).map (·.2))).get? a=some (seqObj "list" ((arrOf st).map (·.2)) c4):=⟨_,get?_update_seq UU.1 λ_=>(arrOf st).map (·.2)⟩
   have u4:=vW (s'.heap.update kS (Obj.mapSeq λ_=>(#[]:Array Value))) a (Obj.mapSeq λ_=>(arrOf st).map (·.2))
   have so:((arrOf st).map (·.2)).size=its.length:=by rw[eo];simp only[vH,vI,vG,ap.size]
   unfold ksk_tail
   try dsimp only
   refine wX (listUpdate_at pk.1 rfl ?_ (by rw[WJ,sizeLine_eq];omega) (uN _))
   refine wX (wpAny_letGo ?_)
   refine wX (seqEpoch_at UU.1 rfl ?_)
   refine wX (listUpdate_at UU.1 rfl ?_ (uN _) (by simp only[uV,if_false];rw[so,sizeLine_eq];omega))
   rw[ef]
   simp only[bne_self_eq_false,uV,if_false]
   refine wY (h p _ H' N ap up (JN (s:={ s' with heap:=s'.heap.update kS (Obj.mapSeq λ_=>(#[]:Array Value)) }) (t':=s'.toks) J3 h0 hp (λb q n z=>(u4.2 b n).trans z) ⟨_,WL⟩ ?_) x1 Ul)
   refine⟨by rw[vI,vG,ap.size];exact hz,p.toList.map λi=>its.getD i Value.none,c4,oh rv p.toList ET,?_⟩
   rw[←eo];exact WL
  unfold ksk_end
  try dsimp only
  simp only[uV,if_false]
  have Za:kA=kA.toList.toArray:=by simp
  by_cases EB:its.toArray.size<2
  ·rw[if_pos EB,if_pos EB]
   refine wX (wY ?_)
   rw[StateT.run_pure]
   refine wX (wY ?_)
   have UO:its.length<2:=by simpa using EB
   refine HY _ (List.toArray (List.range its.length)) ?_ rfl ⟨by simp,by simp⟩ ?_
   ·show kA.zip its.toArray=_
    have:=kas_range (kA.toList.toArray.zip its.toArray)
    rw[show(kA.toList.toArray.zip its.toArray).size=its.length by simp[WJ]]at this
    rw[this]
   ·intro i j Ad hj
    have:i=j:=by omega
    subst this;exact Int.le_refl _
  ·rw[if_neg EB,if_neg EB]
   have UV:2<=its.length:=by simp at EB;omega
   rw[Za]
   refine wX (WK.1 (by omega) ?_)
   obtain⟨p,r1,r2,r3⟩:=yL (n:=its.length) (rk:=An ks) (by omega)
   refine wX (wpAny_mono (kat_run (E:=E) (ks:=kA.toList) (vs:=its) (κ:=tuples' true) (s:=s') (Q:=λjm s2=>s2=s'/\arrOf jm=p.map (kas_item (kA.toList.toArray.zip its.toArray))/\failedOf jm=none)
    (G:=λp' s2=>p'=p/\s2=s') kz UV vx (λp' jm s2 _ e2 e3 e4=>by
     obtain⟨rfl,rfl⟩:=e4
     exact⟨rfl,e2,e3⟩) (Run.wp (λs2=>s2=s') (λi j C s2 hi hj e hC=>WK.2 i j C s2 (by omega) (by omega) e hC) r1 rfl λs2 e=>⟨rfl,e⟩)) (λr s2 hr=>?_) λ_ _ z=>z)
   obtain⟨⟨⟩,jm⟩:=r
   obtain⟨rfl,e2,e3⟩:=hr
   exact HY jm p e2 e3 r2 r3
end
theorem yW {α β:Type}{f:α->β}:∀ {l:List α},(l.map f).Nodup->l.Nodup
 |[],_=>List.nodup_nil
 |a::l,h=>by
  rw[uY,List.nodup_cons]at h;exact List.nodup_cons.mpr ⟨λz=>h.1 (uS ⟨a,z,rfl⟩),yW h.2⟩
def jz (ks:List (List At))(ds:List D):List D:=(dw (λp:List At×D=>cB p.1) (ks.zip ds)).map (·.2)
theorem Gz {α β:Type}(d:α)(e:β):∀ {l₁:List α}{l₂:List β},l₁.length=l₂.length->(List.range l₂.length).map (λi=>(l₁.getD i d,l₂.getD i e))=l₁.zip l₂:=λ{l₁ l₂} h=>by
 apply List.ext_getElem?;intro i;by_cases hi:i<l₂.length
 ·have ED:i<l₁.length:=by omega
  have:=(List.getElem?_zip_eq_some (z:=(l₁[i],l₂[i]))).mpr ⟨vU ED,vU hi⟩;rw[this];simp[hi,ED]
 ·simp[hi,h]
theorem JP {α β:Type}{l₁:List α}{l₂:List β}(nd:l₁.Nodup){a:α}{b c:β}(h1:(a,b)∈l₁.zip l₂)(h2:(a,c)∈l₁.zip l₂):b=c:=by
 obtain⟨i,hi⟩:=List.mem_iff_getElem?.mp h1;obtain⟨j,hj⟩:=List.mem_iff_getElem?.mp h2;obtain⟨i1,i2⟩:=List.getElem?_zip_eq_some.mp hi;obtain⟨j1,j2⟩:=List.getElem?_zip_eq_some.mp hj;obtain⟨li,ei⟩:=vV i1;obtain⟨lj,ej⟩:=vV j1;have:i=j:=(List.getElem_inj nd).mp (ei.trans ej.symm);subst this;rw[i2]at j2;exact vK j2
theorem Bd {ds:List D}{ks:List (List At)}{p:Array Nat}(hl:ks.length=ds.length)(hc:dz ks=true)(nd:ks.Nodup)(ap:nM ds.length p)(up:Up (An ks) p ds.length):p.toList.map (λi=>ds.getD i .non)=jz ks ds:=by
 unfold jz;have e:p.toList.map (λi=>(ks.getD i [],ds.getD i .non))=dw (λp:List At×D=>cB p.1) (ks.zip ds):=by
  apply gL
  ·intro x hx y hy e;have mx:=(List.of_mem_zip hx).1;have my:=(List.of_mem_zip hy).1;have:=lh hc mx my e;obtain⟨k1,d1⟩:=x;obtain⟨k2,d2⟩:=y;have z:k1=k2:=this;subst z;rw[JP nd hx hy]
  ·have:=ap.perm.map (λi=>(ks.getD i [],ds.getD i D.non));rw[Gz [] D.non hl]at this;exact this
  ·rw[List.pairwise_iff_getElem];intro i j hi hj Ad;have hsz:=ap.size;have ED:i<p.size:=by simpa using hi
   have Py:j<p.size:=by simpa using hj
   have:=up i j (Nat.le_of_lt Ad) (by omega);unfold c7 An at this;have gi:p.getD i 0=p[i]:=by rw[Array.getD_eq_getD_getElem?,Array.getElem?_eq_getElem ED];rfl
   have gj:p.getD j 0=p[j]:=by rw[Array.getD_eq_getD_getElem?,Array.getElem?_eq_getElem Py];rfl
   have lj:=ap.lt (k:=j) (by omega);have mj:ks.getD (p.getD j 0) []∈ks:=by
    have h':p.getD j 0<ks.length:=by omega
    rw[vF,vU h'];exact List.getElem_mem h'
   have nl:¬cB (ks.getD (p.getD j 0) [])<cB (ks.getD (p.getD i 0) []):=λz=>by
    have:=wP (cs:=ks.map cB) (uS ⟨_,mj,rfl⟩) z;omega
   simp only[List.getElem_map,Array.getElem_toList];unfold Gq;rw[←gi,←gj];exact nl
 rw[←e,uP];rfl
@[simp] def wT (kd:List D->Option (List (List At)))(ok:List (List At)->Bool)(f:FE)(kf:Env->D->Option D):FE:=λρ=>(f ρ).bind λx=>match x.1 with
 |.lst ds=>(jO (kf ρ) ds).bind λhU=>(kd hU).bind λks=>if ks.length<64/\dz ks=true/\ok ks=true/\(ks.map cB).Nodup then some (.lst (jz ks ds),true)else none
 |_=>none
@[simp] abbrev qD:FE->(Env->D->Option D)->FE:=wT dA de
section
variable {X:Cx}{e ke:Expr}{p pos kp:Pos}
theorem G0 {kd:List D->Option (List (List At))}{ok:List (List At)->Bool}(M:KK X X.A.in1.in1 kd ok){f:FE}{kf:Env->D->Option D}(hm:X.mg "sorted" = none)(he:JE X e f)(hk:JK X X.A.in1.in1 ke kf)(hg:Gl X "sorted":=by rfl)
  (UW:starEach [e] X.env=[(false,eval e X.env)]:=by rfl) (UX:backTo pos (starEach [e] X.env)=(false,eval e X.env)::backTo pos (starEach [] X.env):=by rfl) (lL:(backTo pos (starEach [e] X.env)).any (·.1)=false:=by rfl)
  (l8:(backToKw pos (keywordEach [⟨some "key",ke,kp⟩] X.env)).all (·.1.isSome)=true:=by rfl) (UY:(backToKw pos (keywordEach [⟨some "key",ke,kp⟩] X.env)).any (·.1.isNone)=false:=by rfl)
  (UZ:(backToKw pos (keywordEach [⟨some "key",ke,kp⟩] X.env)).filterMap (·.1)=[("key" : Str)]:=by rfl):
  JE X (.Call (.Name "sorted" p) [e] [⟨some "key",ke,kp⟩] pos) (wT kd ok f kf):=by
 intro ae s σ H Q I h;obtain⟨B,ρ,d,b,sB,rep,ee,q⟩:=h;obtain⟨⟨xd,xb⟩,ex,ee⟩:=oX ee;cases xd<;>try (cases ee;done)
 rename_i ds;obtain⟨hU,em,ee⟩:=oX ee;obtain⟨ks,ek,ee⟩:=oX ee;split at ee
 ·rename_i hh;obtain⟨vx,hc,hf,nd⟩:=hh;cases ee
  refine wpAny_Call_Name_kw (lP I hg hm (u:=.builtin "sorted") rfl ?_);refine callWith_kw (cY ((iT he kx UW) pos ae s σ H (λvs H1=>∃v N,vs=[v]/\Ext B N H H1/\Is X.K N v (.lst ds)) I ⟨B,ρ,_,_,sB,rep,ex,λv H1 N x1 i1 _=>⟨v,N,rfl,x1,i1⟩⟩) λus s1 hA=>?_) UX lL l8 UY;obtain⟨Zb,H1,I1,r1,v,N,rfl,x1,i1⟩:=hA;obtain⟨u,rfl,ru⟩:=gZ r1;refine kws_cons (hk ae s1 σ H1 N ρ _ _ I1 x1.nh (rep.mono x1.bn) λqa H2 s2 I2 m2 Mn=>kws_nil ?_);rw[UZ];show wpAny _ _ (call (.builtin "sorted") [u] [(("key" : Str),.ref qa)]) _ _ _;cases i1
  rename_i l vs hq il;cases ru
  have sN:aV N H2:=x1.nh.trans m2;obtain⟨its,rv,pl,hz⟩:=I2.list (sN.seq hq);have Aa:vs.length=its.length:=rv.length;have Iy:ds.length=vs.length:=il.length.symm;have WH:hU.length=ds.length:=i6 em;have UT:ks.length=hU.length:=M.len ek;have Va:its.length<64:=by omega
  refine call_function_entry_kw kind_sorted plain_sorted entry_sorted (ksk_s1 _ _) ?_;unfold Builtin.«sorted»;refine wX (m:=checkCount "sorted" 1 1 _) (wY (wX (collect_list pl.isList (wX (wpAny_newList ?_ (by rw[sizeLine_eq];omega))) (by rw[sizeLine_eq];omega))));let h1:Heap:=(s2.heap.push (seqObj "list" #[] 0)).update s2.heap.objs.size (Obj.mapSeq (· ++ its.toArray));have hsz:h1.objs.size=s2.heap.objs.size+1:=by show(Heap.update _ _ _).objs.size=_;rw[Heap.size_update,size_push']
  have RK:∀b o,s2.heap.get? b=some o->h1.get? b=some o:=λb o q=>(Heap.get?_update_ne _ _ _ _ (vS (vX q))).trans (vZ _ q);have I3:Inv X ((h1.objs.size,seqObj "list" its.toArray 0)::ae) σ H2 { s2 with heap:=h1.push (seqObj "list" its.toArray 0) } :=
   pJ (t':=s2.toks) I2 (λb u q=>vZ _ (RK b u q)) (by rw[hsz];exact Nat.le_succ _) (vY _ rfl) dC
  have p3:=I3.pin (h1.objs.size,seqObj "list" its.toArray 0) (mY _ mX);show wpAny (model X.prog X.w) X.A.in1 (holding [.ref h1.objs.size] (call (.builtin "list.sort") [.ref h1.objs.size] [(("key" : Str),.ref qa)])>>=_) _ _ { s2 with heap:=h1.push (seqObj "list" its.toArray 0) };refine wX (wpAny_holding (wpAny_call_entry_kw slot_list_sort ⟨_,p3.1,rfl⟩ entry_list_sort ?_ (ksk_l1 _ _)));show wpAny (model X.prog X.w) X.A.in1.in1 (Builtin.«list.sort» ⟨[.ref h1.objs.size],[(Str.ofString "key",.ref qa)]⟩) _ _ _;rw[ksk_t1];refine Bc I3 (vR I2.sz (by rw[hsz];exact Nat.le_succ _)) (λq hq=>by rw[hsz];exact vS (Nat.lt_succ_of_lt (vX (I2.pin q hq).1))) Mn rv il sN M em ek hc hf Va λpm s' H' N' ap up J x3 hn=>⟨_,rfl,wY ⟨_,rfl,?_⟩⟩;have lL:its.length=ds.length:=by omega
  rw[lL]at ap up;have er:=Bd (by omega) hc (yW nd) ap up;have ET:∀i∈pm.toList,i<ds.length:=λi hi=>List.mem_range.mp (ap.perm.mem_iff.mp hi);have ip:=qB (il.mono x3.bn) pm.toList ET;rw[er]at ip;have x4:Ext B N' H H':=(x1.trans (.grow x1.nh m2)).trans x3;have hN:N' h1.objs.size=none:=x3.nh.free hn;have x5:=x4.trans (Ext.laid (o:=.lst (pm.toList.map λi=>vs.getD i .non)) x3.nh hn);exact⟨.ref h1.objs.size,_,J,rfl,q _ _ _ x5 (.lst (iP.of aG) (ip.mono (Ext.laid (o:=.lst (pm.toList.map λi=>vs.getD i .non)) x3.nh hn).bn)) λ_=>⟨_,_,_,rfl,rfl,x4.hh.free hn,aG,ip.mono (Ext.laid (o:=.lst (pm.toList.map λi=>vs.getD i .non)) x3.nh hn).bn⟩⟩
 ·cases ee
end
section
variable {prog:Program}{w:World}{A:Around}{E:Value->Shared->Prop}{s:Shared}
theorem fB.type (h:fB s.heap xs v):s.TypeIs v "tuple":=by
 obtain⟨a,o,its,n,rfl,ho,hc,_⟩:=h;exact⟨o,ho,hc⟩
theorem G1 (hx:fB s.heap xs (.ref a))(hy:fB s.heap ys (.ref b))(h:aZ xs ys=some r)(q:P (.done (.ret (.bool r))) s):wpAny (model prog w) A (Builtin.«tuple.__lt__» ⟨[.ref a,.ref b],[]⟩) P E s:=by
 have Vb:=hy.type;obtain⟨a',oa,its,na,ea,Rq,_,Vc,ra⟩:=hx;obtain⟨b',ob,gA,nb,eb,Vd,_,sM,rb⟩:=hy;cases ea
 cases eb
 show wpAny _ _ (isInstance (.ref _) (.type "tuple")>>=_) _ _ s;refine wX (wpAny_isInstance Vb isSubtype_tuple_tuple ?_);simp only[Bool.not_true,uV,if_false];refine wX (wpAny_tupleItemsOf Rq Vc ?_);refine wX (wpAny_tupleItemsOf Vd sM ?_);refine wX ?_;refine wpAny_forIn_list _
  (λaF z s'=>z.1=none/\s'=s/\∃Lb Lc its' sQ n,aF=List.zip its' sQ/\Paired yN Lb its'/\Paired yN Lc sQ/\aZ Lb Lc=some r/\its'.length+n=its.size/\sQ.length+n=gA.size)
  _ ?_ ?_ _ _ ⟨rfl,rfl,xs,ys,its.toList,gA.toList,0,rfl,ra,rb,h,by simp,by simp⟩
 ·rintro⟨u,v⟩ aF z s' ⟨hz,rfl,Lb,Lc,its',sQ,n,e,p1,p2,hl,n1,n2⟩;cases p1 with
  |nil=>simp at e
  |@cons x u' HZ Ae r1 RL=>
   cases p2 with
   |nil=>simp at e
   |@cons y v' Ia Af r2 RM=>
    simp only[List.zip_cons_cons,List.cons.injEq,Prod.mk.injEq]at e;obtain⟨⟨rfl,rfl⟩,rfl⟩:=e;cases x with
    |i i=>
     cases y with
     |s j=>simp[aZ]at hl
     |i j=>
      obtain⟨t,rfl⟩:=r1;obtain⟨t',rfl⟩:=r2;rw[aZ]at hl;refine wX (wpAny_eqBool_int ?_);by_cases hk:i=j
      ·rw[if_pos hk]at hl;rw[show(i == j)=true by simp[hk]];simp only[Bool.not_true,uV,if_false];exact wY ⟨rfl,rfl,HZ,Ia,Ae,Af,n+1,rfl,RL,RM,hl,by rw[←n1,vE];omega,by rw[←n2,vE];omega⟩
      ·rw[if_neg hk]at hl;cases hl
       rw[show(i == j)=false by simp[hk]];simp only[Bool.not_false,if_true];refine wX (wpAny_rule (wX (m:=richCompare .Lt (.int i t) (.int j t')) (wpAny_mono (show wpAny _ _ (richCompare .Lt (.int i t) (.int j t')) (λv tI=>v=.bool (decide (i<j))/\tI=s') E s' from PyProof.Rows.lt_int ⟨rfl,rfl⟩) (λv tI hv=>?_) λ_ _ z=>z)));obtain⟨rfl,rfl⟩:=hv;exact wX (wY (wY (wY q)))
    |s i=>
     cases y with
     |i j=>simp[aZ]at hl
     |s j=>
      obtain⟨t,rfl⟩:=r1;obtain⟨t',rfl⟩:=r2;rw[aZ]at hl;refine wX (wpAny_eqBool_str ?_);by_cases hk:i=j
      ·rw[if_pos hk]at hl;rw[decide_eq_true hk];simp only[Bool.not_true,uV,if_false];exact wY ⟨rfl,rfl,HZ,Ia,Ae,Af,n+1,rfl,RL,RM,hl,by rw[←n1,vE];omega,by rw[←n2,vE];omega⟩
      ·rw[if_neg hk]at hl;cases hl
       rw[decide_eq_false hk];simp only[Bool.not_false,if_true];refine wX (wpAny_rule (wX (m:=richCompare .Lt (.str i t) (.str j t')) (wpAny_mono (show wpAny _ _ (richCompare .Lt (.str i t) (.str j t')) (λv tI=>v=.bool (decide (i.cps.toList<j.cps.toList))/\tI=s') E s' from PySem.P.lt_str ⟨rfl,rfl⟩) (λv tI hv=>?_) λ_ _ z=>z)));obtain⟨rfl,rfl⟩:=hv;exact wX (wY (wY (wY q)))
 ·rintro⟨z1,z2⟩ s' ⟨hz,rfl,Lb,Lc,its',sQ,n,e,p1,p2,hl,n1,n2⟩;simp only at hz;subst hz;refine wY ?_;have:decide (its.size<gA.size)=r:=by
   cases p1 with
   |nil=>
    cases p2 with
    |nil=>simp[aZ]at hl;subst hl;simp at n1 n2;simp;omega
    |cons _ _=>simp[aZ]at hl;subst hl;simp at n1 n2;simp;omega
   |cons _ _=>
    cases p2 with
    |nil=>simp[aZ]at hl;subst hl;simp at n1 n2;simp;omega
    |cons _ _=>simp at e
  show P (.done (.ret (.bool (decide (its.size<gA.size))))) s';rw[this];exact q
theorem G2 (hx:fB s.heap xs (.ref a))(hy:fB s.heap ys (.ref b))(h:aZ ys xs=some r)(q:P (.done (.ret (.bool r))) s):wpAny (model prog w) A (Builtin.«tuple.__gt__» ⟨[.ref a,.ref b],[]⟩) P E s:=by
 have Vb:=hy.type;obtain⟨a',oa,its,na,ea,Rq,_,Vc,ra⟩:=hx;obtain⟨b',ob,gA,nb,eb,Vd,_,sM,rb⟩:=hy;cases ea
 cases eb
 show wpAny _ _ (isInstance (.ref _) (.type "tuple")>>=_) _ _ s;refine wX (wpAny_isInstance Vb isSubtype_tuple_tuple ?_);simp only[Bool.not_true,uV,if_false];refine wX (wpAny_tupleItemsOf Rq Vc ?_);refine wX (wpAny_tupleItemsOf Vd sM ?_);refine wX ?_;refine wpAny_forIn_list _
  (λaF z s'=>z.1=none/\s'=s/\∃Lb Lc its' sQ n,aF=List.zip its' sQ/\Paired yN Lb its'/\Paired yN Lc sQ/\aZ Lc Lb=some r/\its'.length+n=its.size/\sQ.length+n=gA.size)
  _ ?_ ?_ _ _ ⟨rfl,rfl,xs,ys,its.toList,gA.toList,0,rfl,ra,rb,h,by simp,by simp⟩
 ·rintro⟨u,v⟩ aF z s' ⟨hz,rfl,Lb,Lc,its',sQ,n,e,p1,p2,hl,n1,n2⟩;cases p1 with
  |nil=>simp at e
  |@cons x u' HZ Ae r1 RL=>
   cases p2 with
   |nil=>simp at e
   |@cons y v' Ia Af r2 RM=>
    simp only[List.zip_cons_cons,List.cons.injEq,Prod.mk.injEq]at e;obtain⟨⟨rfl,rfl⟩,rfl⟩:=e;cases x with
    |i i=>
     cases y with
     |s j=>simp[aZ]at hl
     |i j=>
      obtain⟨t,rfl⟩:=r1;obtain⟨t',rfl⟩:=r2;rw[aZ]at hl;refine wX (wpAny_eqBool_int ?_);by_cases hk:j=i
      ·rw[if_pos hk]at hl;rw[show(i == j)=true by simp[hk]];simp only[Bool.not_true,uV,if_false];exact wY ⟨rfl,rfl,HZ,Ia,Ae,Af,n+1,rfl,RL,RM,hl,by rw[←n1,vE];omega,by rw[←n2,vE];omega⟩
      ·rw[if_neg hk]at hl;cases hl
       rw[show(i == j)=false by simp;exact λz=>hk z.symm];simp only[Bool.not_false,if_true];refine wX (wpAny_rule (wX (m:=richCompare .Gt (.int i t) (.int j t')) (wpAny_mono (show wpAny _ _ (richCompare .Gt (.int i t) (.int j t')) (λv tI=>v=.bool (decide (j<i))/\tI=s') E s' from PyProof.Rows.gt_int ⟨rfl,rfl⟩) (λv tI hv=>?_) λ_ _ z=>z)));obtain⟨rfl,rfl⟩:=hv;exact wX (wY (wY (wY q)))
    |s i=>
     cases y with
     |i j=>simp[aZ]at hl
     |s j=>
      obtain⟨t,rfl⟩:=r1;obtain⟨t',rfl⟩:=r2;rw[aZ]at hl;refine wX (wpAny_eqBool_str ?_);by_cases hk:j=i
      ·rw[if_pos hk]at hl;rw[decide_eq_true hk.symm];simp only[Bool.not_true,uV,if_false];exact wY ⟨rfl,rfl,HZ,Ia,Ae,Af,n+1,rfl,RL,RM,hl,by rw[←n1,vE];omega,by rw[←n2,vE];omega⟩
      ·rw[if_neg hk]at hl;cases hl
       rw[decide_eq_false λz=>hk z.symm];simp only[Bool.not_false,if_true];refine wX (wpAny_rule (wX (m:=richCompare .Gt (.str i t) (.str j t')) (wpAny_mono (show wpAny _ _ (richCompare .Gt (.str i t) (.str j t')) (λv tI=>v=.bool (decide (j.cps.toList<i.cps.toList))/\tI=s') E s' from PySem.P.gt_str ⟨rfl,rfl⟩) (λv tI hv=>?_) λ_ _ z=>z)));obtain⟨rfl,rfl⟩:=hv;exact wX (wY (wY (wY q)))
 ·rintro⟨z1,z2⟩ s' ⟨hz,rfl,Lb,Lc,its',sQ,n,e,p1,p2,hl,n1,n2⟩;simp only at hz;subst hz;refine wY ?_;have:decide (gA.size<its.size)=r:=by
   cases p1 with
   |nil=>
    cases p2 with
    |nil=>simp[aZ]at hl;subst hl;simp at n1 n2;simp;omega
    |cons _ _=>simp[aZ]at hl;subst hl;simp at n1 n2;simp;omega
   |cons _ _=>
    cases p2 with
    |nil=>simp[aZ]at hl;subst hl;simp at n1 n2;simp;omega
    |cons _ _=>simp at e
  show P (.done (.ret (.bool (decide (gA.size<its.size))))) s';rw[this];exact q
theorem G3 (hx:fB s.heap xs x)(hy:fB s.heap ys y)(h:aZ xs ys=some r)(hu:A.units<cLine)(q:Q (.bool r) s):wpAny (model prog w) A (richCompare .Lt x y) Q E s:=by
 have tx:=hx.type;have ty:=hy.type;obtain⟨a,_,_,_,rfl,_⟩:=id hx;obtain⟨b,_,_,_,rfl,_⟩:=id hy;exact wpAny_richCompare_same_room (op:=.Lt) tx ty PySem.F.slot_tuple_lt (wpAny_call_entry PySem.F.slot_tuple_lt tx PySem.F.entry_tuple_lt (G1 hx hy h ⟨_,rfl,(λe=>nomatch e),q⟩) (PySem.F.args_tuple_lt_2 _ _)) hu
theorem QO (hx:fB s.heap xs x)(hy:fB s.heap ys y)(h:aZ ys xs=some r)(hu:A.units<cLine)(q:Q (.bool r) s):wpAny (model prog w) A (richCompare .Gt x y) Q E s:=by
 have tx:=hx.type;have ty:=hy.type;obtain⟨a,_,_,_,rfl,_⟩:=id hx;obtain⟨b,_,_,_,rfl,_⟩:=id hy;exact wpAny_richCompare_same_room (op:=.Gt) tx ty PySem.F.slot_tuple_gt (wpAny_call_entry PySem.F.slot_tuple_gt tx PySem.F.entry_tuple_gt (G2 hx hy h ⟨_,rfl,(λe=>nomatch e),q⟩) (PySem.F.args_tuple_gt_2 _ _)) hu
end
def mN:List At×D->List (List At×D)->D
 |b,[]=>b.2
 |b,x::r=>if aZ b.1 x.1=some true then mN x r else mN b r
def lE:List At×D->List (List At×D)->D
 |b,[]=>b.2
 |b,x::r=>if aZ x.1 b.1=some true then lE x r else lE b r
noncomputable def X4 {f:String->CmpOp->Builtin}(_:f "max" .Gt=Builtin.«max.loop»):=f
noncomputable def X5:String->CmpOp->Builtin:=X4 rfl
noncomputable def X6 {f:String->Builtin}(_:f "max" = Builtin.«max»):=f
noncomputable def X7:String->Builtin:=X6 rfl
structure MM (nm lp:String)(ns:Str)(op:CmpOp)(lt:List At->List At->Option Bool)(go:List At×D->List (List At×D)->D):Prop where
 hn:(toString nm++toString ".loop" : String)=lp
 en:entryFor table lp=some (X5 nm op)
 pl:plainId lp=true
 k2:builtinKind nm=none
 p2:plainId nm=true
 e2:entryFor table nm=some (X7 nm)
 ka:∀a v:Value,argsOk nm ⟨[a],[(Str.ofString "key",v)]⟩
 bt:bootBuiltins ns=some (.builtin nm)
 n1:ns ≠ "__name__"
 n2:(ns == ("__debug__" : Str))=false
 g0:∀b,go b []=b.2
 g1:∀b x r,go b (x::r)=if lt b.1 x.1=some true then go x r else go b r
 cg:∀ {ks:List (List At)},dz ks=true->∀ {a b},a∈ks->b∈ks->∃r,lt a b=some r
 rc:∀ {prog:Program}{w:World}{A:Around}{E:Value->Shared->Prop}{s:Shared}{xs ys:List At}{x y:Value}{r:Bool}{Q:Value->Shared->Prop},fB s.heap xs x->fB s.heap ys y->lt ys xs=some r->A.units<cLine->Q (.bool r) s->wpAny (model prog w) A (richCompare op x y) Q E s
theorem VH:MM "max" "max.loop" "max" .Gt aZ mN :=
 ⟨by decide,PySem.F.entry_max_loop,PySem.F.plain_max_loop,PySem.F.kind_max,PySem.F.plain_max,PySem.F.entry_max,λ_ _=>by unfold argsOk;kernel_rfl,rfl,by decide,by decide,λ_=>rfl,λ_ _ _=>rfl,λh _ _ a b=>⟨_,im h a b⟩,QO⟩
theorem TR:MM "min" "min.loop" "min" .Lt (λa b=>aZ b a) lE :=
 ⟨by decide,PySem.F.entry_min_loop,PySem.F.plain_min_loop,PySem.F.kind_min,PySem.F.plain_min,PySem.F.entry_min,λ_ _=>by unfold argsOk;kernel_rfl,rfl,by decide,by decide,λ_=>rfl,λ_ _ _=>rfl,λh _ _ a b=>⟨_,im h b a⟩,G3⟩
section
variable {X:Cx}{ae:List (Addr×Obj)}{σ:St}
theorem qE (J:Inv X ((a1,o1)::(a2,o2)::ae) σ H' s'):Inv X ((a2,o2)::(a1,o1)::ae) σ H' s' :=
 J.pins_of λq hq=>J.pin q (by
  rcases vP hq with rfl|hq
  ·exact mY _ (mZ _ mX)
  ·rcases vP hq with rfl|hq
   ·exact mY _ mX
   ·exact mY _ (mZ _ (mZ _ hq)))
theorem qF (hp:∀q∈X.pn++ae,q.1≠a)(h:S≠a):∀q∈X.pn++((S,o)::ae),q.1≠a:=λq hq=>by
 rcases List.mem_append.mp hq with hq|hq
 ·exact hp q (List.mem_append_left _ hq)
 ·rcases vP hq with rfl|hq
  ·exact h
  ·exact hp q (mY _ hq)
theorem pK (I:Inv X ae σ H s)(r:ba v u)(i:Is X.K H v d)(e:mI d=some k):fB s.heap k u:=by
 have:=mK I (ys:=[v]) (ds:=[d]) (ks:=[k]) (its:=[u]) (.cons r .nil) (.cons i .nil) (by simp only[dA,e];rfl);cases this;assumption
theorem JQ {nm lp:String}{ns:Str}{op:CmpOp}{lt:List At->List At->Option Bool}{go:List At×D->List (List At×D)->D}(M:MM nm lp ns op lt go){qv:Value}{l S It:Addr}{vs:List V}{ds hU:List D}{ks:List (List At)}{B H1:Hp}{kf:D->Option D}{d0:D}{R:Result->Shared->Prop}(hh:X.A.handled=none)(hu:X.A.in1.units<cLine)(Mn:Gx X X.A.in1 σ qv B H1 kf)(Zc:∃a,qv=.ref a)(hq:iP X.K B l vs)(iv:IsL X.K B vs ds)
  (em:jO kf ds=some hU) (ek:dA hU=some ks) (hc:dz ks=true) (S0:X.s₀.heap.objs.size<=S) (I0:X.s₀.heap.objs.size<=It) (RN:∀q∈X.pn++ae,q.1≠S) (RO:∀q∈X.pn++ae,q.1≠It) (EU:S≠It) (P0:S≠l) (RP:l≠It)
  (hR:∀(s':Shared)(H' N:Hp)(v:V)(u:Value),Inv X ae σ H' s'->Ext B N H1 H'->ba v u->Is X.K N v d0->R (.ok (.ret u)) s'):
  ∀(r j:Nat)(s:Shared)(H N:Hp)(ub Ag:Value)(vb RQ:V)(db RS:D)(kb:List At)(c:Nat)(oI:Obj),vs.length - j=r->j<=vs.length->Inv X ((S,seqObj "list" #[ub,Ag] c)::(It,oI)::ae) σ H s->s.heap.IsListIter It l j->Ext B N H1 H ->
   ba vb ub->Is X.K N vb db->ba RQ Ag->Is X.K N RQ RS->mI RS=some kb->kb∈ks->go (kb,db) ((ks.zip ds).drop j)=d0 ->
   codeAny (model X.prog X.w) X.A (.builtin lp ⟨[.ref It,qv,.ref S],[]⟩) R s:=by
 obtain⟨qa,rfl⟩:=Zc;intro r;induction r with
 |zero=>
  intro j s H N ub Ag vb RQ db RS kb c oI hr hj I EV x1 r1 i1 r2 i2 ekb mk hd;have pS:=I.pin (S,seqObj "list" #[ub,Ag] c) (mY _ mX);have sB:aV B H:=x1.bn.trans x1.nh;obtain⟨its,rv,pl,_⟩:=I.list (sB.seq hq);have hl:=pl.isList;have W:=Walks.list (prog:=X.prog) (w:=X.w) (A:=X.A.in1) hh It l RP its.toArray;have hsz:its.toArray.size=its.length:=vH ..;have Aa:vs.length=its.length:=rv.length;have Iy:ds.length=its.length:=by rw[←iv.length];exact rv.length
  have SQ:ks.length=ds.length:=by rw[fL ek,i6 em]
  have E7:db=d0:=by
   rw[List.drop_of_length_le (by rw[List.length_zip];omega)]at hd;rw[M.g0]at hd;exact hd
  subst E7;refine codeAny_builtin M.en ?_;rw[Around.under_plainId M.pl _];show wpAny _ X.A.in1 (seqItems? (.ref S)>>=_) _ _ _;refine wX (wpAny_seqItems pS.1 rfl ?_);show wpAny _ X.A.in1 (tryCatch (pyNext (.ref It)) _>>=_) _ _ _;refine wX (wpAny_tryCatch (W.done _ _ _ ⟨by rw[hsz,show its.length=j by omega];exact EV,hl⟩ λh' Dl fP=>?_));have J1:Inv X ((It,oI)::(S,seqObj "list" #[ub,Ag] c)::ae) σ H s:=qE I;have Ib:∀q∈X.pn++((S,seqObj "list" #[ub,Ag] c)::ae),q.1≠It:=qF RO EU;have J2:Inv X ((S,seqObj "list" #[ub,Ag] c)::ae) σ H { s with heap:=h',toks:=Dl } :=
   (kF J1).turned (t':=Dl) (λb o n e=>fP b o (by simpa using n) e) (J1.pin (It,oI) (mY _ mX)).2.1 (J1.pin (It,oI) (mY _ mX)).2.2.1 (.inr I0) (oi J1) Ib
  have WM:=J2.pin (S,seqObj "list" #[ub,Ag] c) (mY _ mX);obtain⟨c2,vw⟩:∃c2,(h'.update S (Obj.mapSeq λ_=>(#[]:Array Value))).get? S=some (seqObj "list" #[] c2):=⟨_,get?_update_seq WM.1 λ_=>#[]⟩;have u2:=vW h' S (Obj.mapSeq λ_=>(#[]:Array Value));show wpAny _ X.A.in1 (updateSeq S (λ_=>#[])>>=_) _ _ _;refine wX ?_;refine wpAny_updateSeq WM.1 rfl (wX (wpAny_letGo (wY ?_)));exact hR _ H N vb ub (kF (gM (t':=Dl) J2 S0 RN (λb o n e=>(u2.2 b n).trans e) vw dC)) x1 r1 i1
 |succ r ih=>
  intro j s H N ub Ag vb RQ db RS kb c oI hr hj I EV x1 r1 i1 r2 i2 ekb mk hd;have fN:j<vs.length:=by omega
  have pS:=I.pin (S,seqObj "list" #[ub,Ag] c) (mY _ mX);have sB:aV B H:=x1.bn.trans x1.nh;obtain⟨its,rv,pl,_⟩:=I.list (sB.seq hq);have hl:=pl.isList;have W:=Walks.list (prog:=X.prog) (w:=X.w) (A:=X.A.in1) hh It l RP its.toArray;have hsz:its.toArray.size=its.length:=vH ..;have Aa:vs.length=its.length:=rv.length;have Iy:ds.length=its.length:=by rw[←iv.length];exact rv.length
  have SQ:ks.length=ds.length:=by rw[fL ek,i6 em]
  refine codeAny_builtin M.en ?_;rw[Around.under_plainId M.pl _];show wpAny _ X.A.in1 (seqItems? (.ref S)>>=_) _ _ _;refine wX (wpAny_seqItems pS.1 rfl ?_);show wpAny _ X.A.in1 (tryCatch (pyNext (.ref It)) _>>=_) _ _ _;refine wX (wpAny_tryCatch (W.item j _ _ _ (by rw[hsz];omega) ⟨EV,hl⟩ λu h' Dl hP hst' fP=>?_));have Iz:its[j]? = some u:=by simpa using hP
  obtain⟨d,Ve⟩:∃d,ds[j]? = some d:=⟨_,vU (by omega)⟩;obtain⟨v,hv,OG⟩:=iv.get Ve;obtain⟨kd,RI,RJ⟩:=mM em Ve;obtain⟨u2,RT,ru⟩:=rv.get hv;rw[Iz]at RT;cases RT;obtain⟨k,OH⟩:∃k,ks[j]? = some k:=⟨_,vU (by omega)⟩;have SS:mI kd=some k:=by
   have:=io ek (i:=j) (by rw[i6 em];omega);rw[vF,RI,vF,OH]at this;exact this
  have hm:k∈ks:=vL OH;obtain⟨EI,OI,ER,P2⟩:=id hst'.1;have J1:Inv X ((It,oI)::(S,seqObj "list" #[ub,Ag] c)::ae) σ H s:=qE I;have Ib:∀q∈X.pn++((S,seqObj "list" #[ub,Ag] c)::ae),q.1≠It:=qF RO EU;have OJ:∀q∈X.pn++((It,EI)::ae),q.1≠S:=qF RN EU.symm;have J2:Inv X ((It,EI)::(S,seqObj "list" #[ub,Ag] c)::ae) σ H { s with heap:=h',toks:=Dl } :=
   gM (t':=Dl) J1 I0 Ib (λb o n e=>fP b o (by simpa using n) e) OI (λv z=>by rw[P2]at z;cases z)
  have J3:Inv X ((S,seqObj "list" #[ub,Ag] c)::(It,EI)::ae) σ H { s with heap:=h',toks:=Dl }:=qE J2;show wpAny _ X.A.in1 (tryCatch (holding [u] (call (.ref qa) [u])) _>>=_) _ _ _;refine wX (wpAny_tryCatch (wpAny_holding (wpAny_mono (Mn _ _ H N v u d kd J3 x1.hh x1.bn x1.nh (OG.mono x1.bn) ru RJ) (λku s2 he=>?_) λ_ _ hF=>hF.elim)));obtain⟨kv,H2,J4,rk,N2,x2,ik⟩:=he;have SU:=J4.pin (It,EI) (mY _ (mZ _ mX));have RU:=J4.pin (S,seqObj "list" #[ub,Ag] c) (mY _ mX);have Vf:s2.heap.IsListIter It l (j+1):=⟨EI,SU.1,ER,P2⟩;have t1:=pK J4 rk (ik.mono x2.nh) SS;have t2:=pK J4 r2 (i2.mono (x2.bn.trans x2.nh)) ekb;have hz:(ks.zip ds).drop j=(k,d)::(ks.zip ds).drop (j+1):=by
   have Py:j<(ks.zip ds).length:=by rw[List.length_zip];omega
   rw[List.drop_eq_getElem_cons Py];have:(ks.zip ds)[j]? = some (k,d):=List.getElem?_zip_eq_some.mpr ⟨OH,Ve⟩;rw[vU Py]at this;rw[vK this]
  rw[hz,M.g1]at hd;obtain⟨r,Vg⟩:=M.cg hc mk hm;show wpAny _ X.A.in1 (tryCatch (holding [u,ku] (richCompare op ku Ag>>=_)) _>>=_) _ _ _;refine wX (wpAny_tryCatch (wpAny_holding (wX (M.rc t1 t2 Vg hu ?_))));refine wX (wpAny_holding (wpAny_truthy_bool ?_));refine wX (wpAny_letGo (wY ?_));cases r with
  |true=>
   rw[if_pos Vg]at hd;obtain⟨c2,vw⟩:∃c2,(s2.heap.update S (Obj.mapSeq λ_=>#[u,ku])).get? S=some (seqObj "list" #[u,ku] c2):=⟨_,get?_update_seq RU.1 λ_=>#[u,ku]⟩;have u2:=vW s2.heap S (Obj.mapSeq λ_=>#[u,ku]);simp only[if_true];refine wX ?_;refine wpAny_updateSeq RU.1 rfl (wX (wpAny_letGo ?_));rw[M.hn];exact wY ⟨plainId_quiet M.pl _,ih (j+1) _ H2 N2 u ku v kv d kd k c2 EI (by omega) fN (gM (t':=s2.toks) J4 S0 OJ (λb o n e=>(u2.2 b n).trans e) vw dC) ⟨EI,(u2.2 It EU.symm).trans SU.1,ER,P2⟩ (x1.trans x2) ru (OG.mono (x1.bn.trans x2.bn)) rk ik SS hm hd⟩
  |false=>
   rw[if_neg (by rw[Vg];simp)]at hd;simp only[uV,if_false];refine wX (wpAny_letGo ?_);rw[M.hn];exact wY ⟨plainId_quiet M.pl _,ih (j+1) _ H2 N2 ub Ag vb RQ db RS kb c EI (by omega) fN J4 Vf (x1.trans x2) r1 (i1.mono x2.bn) r2 (i2.mono x2.bn) ekb mk hd⟩
end
@[simp] def NS (go:List At×D->List (List At×D)->D)(f:FE)(kf:Env->D->Option D):FE:=λρ=>(f ρ).bind λx=>match x.1 with
 |.lst ds=>(jO (kf ρ) ds).bind λhU=>(dA hU).bind λks=>if dz ks=true then match ks.zip ds with
  |[]=>none
  |y::r=>some (go y r,false)
  else none
 |_=>none
@[simp] def ux:=NS mN
@[simp] def uy:=NS lE
section
variable {X:Cx}{e ke:Expr}{p pos kp:Pos}
theorem yX {nm lp:String}{ns:Str}{op:CmpOp}{lt:List At->List At->Option Bool}{go:List At×D->List (List At×D)->D}(M:MM nm lp ns op lt go){f:FE}{kf:Env->D->Option D}{k:Nat}(hm:X.mg ns=none)(he:JE X e f)(hk:JK X X.A.in1 ke kf)(hr:fg k X.A)(hg:Gl X ns:=by rfl)
  (UW:starEach [e] X.env=[(false,eval e X.env)]:=by rfl) (UX:backTo pos (starEach [e] X.env)=(false,eval e X.env)::backTo pos (starEach [] X.env):=by rfl) (lL:(backTo pos (starEach [e] X.env)).any (·.1)=false:=by rfl)
  (l8:(backToKw pos (keywordEach [⟨some "key",ke,kp⟩] X.env)).all (·.1.isSome)=true:=by rfl) (UY:(backToKw pos (keywordEach [⟨some "key",ke,kp⟩] X.env)).any (·.1.isNone)=false:=by rfl)
  (UZ:(backToKw pos (keywordEach [⟨some "key",ke,kp⟩] X.env)).filterMap (·.1)=[("key" : Str)]:=by rfl):
  JE X (.Call (.Name ns p) [e] [⟨some "key",ke,kp⟩] pos) (NS go f kf):=by
 intro ae s σ H Q I h;obtain⟨B,ρ,d,b,sB,rep,ee,q⟩:=h;obtain⟨⟨xd,xb⟩,ex,ee⟩:=oX ee;cases xd<;>try (cases ee;done)
 rename_i ds;obtain⟨hU,em,ee⟩:=oX ee;obtain⟨ks,ek,ee⟩:=oX ee;split at ee
 ·rename_i hc;split at ee
  ·cases ee
  ·rename_i y aF ez;cases ee
   refine wpAny_Call_Name_kw (lP I hg hm M.bt ?_ M.n1 M.n2);refine callWith_kw (cY ((iT he kx UW) pos ae s σ H (λvs H1=>∃v N,vs=[v]/\Ext B N H H1/\Is X.K N v (.lst ds)) I ⟨B,ρ,_,_,sB,rep,ex,λv H1 N x1 i1 _=>⟨v,N,rfl,x1,i1⟩⟩) λus s1 hA=>?_) UX lL l8 UY;obtain⟨Zb,H1,I1,r1,v,N,rfl,x1,i1⟩:=hA;obtain⟨u,rfl,ru⟩:=gZ r1;refine kws_cons (hk ae s1 σ H1 N ρ _ _ I1 x1.nh (rep.mono x1.bn) λqa H2 s2 I2 m2 Mn=>kws_nil ?_);rw[UZ];show wpAny _ _ (call (.builtin nm) [u] [(("key" : Str),.ref qa)]) _ _ _;cases i1
   rename_i l vs hq il;cases ru
   have sN:aV N H2:=x1.nh.trans m2;obtain⟨its,rv,pl,hz⟩:=I2.list (sN.seq hq);have Aa:vs.length=its.length:=rv.length;have Iy:ds.length=vs.length:=il.length.symm;have WH:hU.length=ds.length:=i6 em;have UT:ks.length=hU.length:=fL ek;have RV:l<s2.heap.objs.size:=by
    obtain⟨ol,O9,_⟩:=pl.isList;exact vX O9
   -- the first item
   obtain⟨k0,d0⟩:=y;have p0:0<its.length:=by
    have:=congrArg List.length ez;rw[List.length_zip,vE]at this;omega
   have z0:(ks.zip ds)[0]? = some (k0,d0):=by rw[ez];rfl
   obtain⟨SV,P4⟩:=List.getElem?_zip_eq_some.mp z0;have RW:(ks.zip ds).drop 1=aF:=by rw[ez];rfl
   refine kmk_tree M.k2 M.p2 M.e2 (M.ka _ _) ?_;show wpAny _ X.A.in1 (Builtin.Builtins.bindParams nm ["key","default"] 0 ⟨[],[(Str.ofString "key",.ref qa)]⟩>>=_) _ _ s2;refine wX (wpAny_of_eq (show Builtin.Builtins.bindParams nm ["key","default"] 0 ⟨[],[(Str.ofString "key",.ref qa)]⟩=pure [some (.ref qa),none]from rfl) ?_);refine wX (wY ?_);refine wX (wpAny_pyIter_list pl.isList ?_);refine wX (wpAny_newList ?_ (uN _));rw[M.hn];let It:Addr:=s2.heap.objs.size;let oI:Obj:={ cls:=.type "list_iterator",data:=.fields #[.ref l,.int 0 0] };let S:Addr:=(s2.heap.push oI).objs.size;have hS:S=s2.heap.objs.size+1:=size_push' ..;have EU:S≠It:=by rw[hS];exact Nat.ne_of_gt (Nat.lt_succ_self _)
   have J1:Inv X ((It,oI)::ae) σ H2 { s2 with heap:=s2.heap.push oI }:=pJ (t':=s2.toks) I2 (λb u q=>vZ _ q) (vT _) (vY _ rfl) (λv z=>by cases z);have J2:Inv X ((S,seqObj "list" #[] 0)::(It,oI)::ae) σ H2 { s2 with heap:=(s2.heap.push oI).push (seqObj "list" #[] 0) }:=pJ (s:={ s2 with heap:=s2.heap.push oI }) (t':=s2.toks) J1 (λb u q=>vZ _ q) (vT _) (vY _ rfl) dC;have I0:X.s₀.heap.objs.size<=It:=I2.sz;have S0:X.s₀.heap.objs.size<=S:=by rw[hS];exact Nat.le_succ_of_le I2.sz
   have RO:∀q∈X.pn++ae,q.1≠It:=λq hq=>vS (vX (I2.pin q hq).1);have RN:∀q∈X.pn++ae,q.1≠S:=λq hq=>by rw[hS];exact vS (Nat.lt_succ_of_lt (vX (I2.pin q hq).1))
   have RP:l≠It:=vS RV;have P0:S≠l:=by rw[hS];exact Nat.ne_of_gt (Nat.lt_succ_of_lt RV)
   have hh:X.A.handled=none:=hr.hd;have hu:X.A.in1.units<cLine:=by have:=hr.un;show X.A.units+1<cLine;omega
   have pS:=J2.pin (S,seqObj "list" #[] 0) (mY _ mX);have pI:=J2.pin (It,oI) (mY _ (mZ _ mX));obtain⟨zY,xD,Zd,_⟩:=J2.list (sN.seq hq);have Mo:vs.length=zY.length:=xD.length;have W:=Walks.list (prog:=X.prog) (w:=X.w) (A:=X.A.in1) hh It l RP zY.toArray;have hsz:zY.toArray.size=zY.length:=vH ..;refine wY ⟨plainId_quiet M.pl _,?_⟩;refine codeAny_builtin M.en ?_;rw[Around.under_plainId M.pl _];show wpAny _ X.A.in1 (seqItems? (.ref S)>>=_) _ _ { s2 with heap:=(s2.heap.push oI).push (seqObj "list" #[] 0) };refine wX (wpAny_seqItems pS.1 rfl ?_);show wpAny _ X.A.in1 (tryCatch (pyNext (.ref It)) _>>=_) _ _ _;refine wX (wpAny_tryCatch (W.item 0 _ _ _ (by rw[hsz];omega) ⟨⟨oI,pI.1,rfl,rfl⟩,Zd.isList⟩ λu h' Dl hP hst' fP=>?_));have Iz:zY[0]? = some u:=by simpa using hP
   obtain⟨v,hv,OG⟩:=il.get P4;obtain⟨kd,RI,RJ⟩:=mM em P4;obtain⟨u2,RT,ru⟩:=xD.get hv;rw[Iz]at RT;cases RT;have SS:mI kd=some k0:=by
    have:=io ek (i:=0) (by omega);rw[vF,RI,vF,SV]at this;exact this
   obtain⟨EI,OI,ER,P2⟩:=id hst'.1;have Ib:∀q∈X.pn++((S,seqObj "list" #[] 0)::ae),q.1≠It:=qF RO EU;have OJ:∀q∈X.pn++((It,EI)::ae),q.1≠S:=qF RN EU.symm;have J3:=qE (gM (t':=Dl) (qE J2) I0 Ib (λb o n e=>fP b o (by simpa using n) e) OI (λv z=>by rw[P2]at z;cases z));show wpAny _ X.A.in1 (tryCatch (holding [u] (call (.ref qa) [u])) _>>=_) _ _ _;refine wX (wpAny_tryCatch (wpAny_holding (wpAny_mono (Mn _ _ H2 N v u d0 kd J3 (.refl _) (.refl _) sN OG ru RJ) (λku s3 he=>?_) λ_ _ hF=>hF.elim)));obtain⟨kv,H3,J4,rk,N3,x3,ik⟩:=he;have SU:=J4.pin (It,EI) (mY _ (mZ _ mX));have RU:=J4.pin (S,seqObj "list" #[] 0) (mY _ mX);obtain⟨c2,vw⟩:∃c2,(s3.heap.update S (Obj.mapSeq λ_=>#[u,ku])).get? S=some (seqObj "list" #[u,ku] c2):=⟨_,get?_update_seq RU.1 λ_=>#[u,ku]⟩;have u2:=vW s3.heap S (Obj.mapSeq λ_=>#[u,ku]);show wpAny _ X.A.in1 (updateSeq S (λ_=>#[u,ku])>>=_) _ _ _;refine wX ?_;refine wpAny_updateSeq RU.1 rfl ?_;rw[M.hn];have xx:Ext B N H H2:=x1.trans (.grow x1.nh m2);refine wY ⟨plainId_quiet M.pl _,JQ M (S:=S) (It:=It) hh hu Mn ⟨qa,rfl⟩ hq il em ek hc S0 I0 RN RO EU P0 RP (λs' H' N' v' u' J' x' r' i'=>⟨v',H',J',r',q _ _ _ (xx.trans x') i' (by simp)⟩) _ 1 _ H3 N3 u ku v kv d0 kd k0 c2 EI rfl (by omega)
    (gM (t':=s3.toks) J4 S0 OJ (λb o n e=>(u2.2 b n).trans e) vw dC) ⟨EI,(u2.2 It EU.symm).trans SU.1,ER,P2⟩ x3 ru (OG.mono x3.bn) rk ik SS (vL SV) (by rw[RW])⟩
 ·cases ee
end
section
variable {X:Cx}
@[simp] def M3:D->D->Option (D×Bool)
 |.tup xs,.tup ys=>(df xs).bind λas=>(df ys).bind λbs=>(aZ as bs).map λr=>(.bl r,false)
 |_,_=>none
@[simp] def Xr:D->D->Option (D×Bool)
 |.tup xs,.tup ys=>(df xs).bind λas=>(df ys).bind λbs=>(aZ bs as).map λr=>(.bl r,false)
 |_,_=>none
theorem QP (hu:X.A.units+40<cLine):dR X (compareOp .Lt) (rD X.K M3):=by
 intro ae s σ H x y v u Q I rx ry q;obtain⟨B,dx,dy,d,b,sB,ix,iy,e,q⟩:=q;cases dx<;>try (simp[M3]at e;done)
 cases dy<;>try (simp[M3]at e;done)
 simp only[M3]at e;obtain⟨as,e1,e⟩:=oX e;obtain⟨bs,e2,e⟩:=oX e;obtain⟨r,e3,e⟩:=oY e;cases e
 show wpAny _ _ (richCompare .Lt v u) _ _ _;exact G3 (pK I rx (ix.mono sB) e1) (pK I ry (iy.mono sB) e2) e3 (by omega) ⟨.bl r,H,I,rfl,q.one sB (.bl r)⟩
end
section
variable {X:Cx}{a b:Expr}{p pos:Pos}
@[simp] def S1 (f g:FE):FA:=λρ=>(f ρ).bind λx=>(g ρ).bind λy=>match x.1,y.1 with
 |.int i,.int j=>if -1000<=i/\i<=1000/\-1000<=j/\j<=1000 then some (gn i (j - i).toNat)else none
 |_,_=>none
end
@[simp] def VI:List D->Option (D×Bool)
 |[.tup xs,.tup ys]=>(df xs).bind λas=>(df ys).bind λbs=>(aZ as bs).map λr=>(if r=true then .tup ys else .tup xs,false)
 |_=>none
end DL
namespace DL
open PySem PySem.Spec PyProof.Rows L2
section
variable {X:Cx}
noncomputable def qG:D->D->Option (D×Bool)
 |.tup xs,.tup ys=>if xs.isEmpty=true then some (.tup ys,false)else none
 |_,_=>none
theorem JR:dR X (binaryOp .Add) (rD X.K qG):=by
 intro ae s σ H x y v u Q I rx ry q;obtain⟨B,dx,dy,d,bb,sB,ix,iy,ee,q⟩:=q;cases ix<;>cases iy<;>try (simp[qG]at ee;done)
 rename_i l vs ds h hl l' ws es h' EE;simp only[qG]at ee;split at ee
 ·rename_i hz;cases ee
  cases rx
  cases ry
  obtain⟨its,r1,p1,_⟩:=I.tuple (bu sB h);obtain⟨zY,r2,p2,_⟩:=I.tuple (bu sB h');have he:its.toArray.isEmpty=true:=by
   have e1:=hl.length;have e2:=r1.length;have e3:=List.isEmpty_iff.mp hz;rw[e3]at e1;cases its with
   |nil=>rfl
   |cons a b=>rw[e1]at e2;simp at e2
  obtain⟨⟨cls,dd,data,sl⟩,ho,hc,n,hd⟩:=id p1;obtain⟨⟨Ut,Ov,data2,SF⟩,KN,vw,n2,Rj⟩:=id p2;dsimp only at hc hd vw Rj;subst hc;subst hd;subst vw;subst Rj;exact concat_meets ⟨_,ho,rfl⟩ ⟨_,KN,rfl⟩ noFill_tuple_add seq_tuple_add PySem.F.slot_tuple_add PySem.F.entry_tuple_add (PySem.F.args_tuple_add_2 _ _)
   (tuple_addW0 l l' its.toArray zY.toArray n n2 dd Ov sl SF he) ⟨ho,KN,⟨.ref l',H,I,rfl,q.one sB (.tup h' EE)⟩⟩
 ·cases ee
@[simp] noncomputable def Co:D->D->Option (D×Bool)
 |.tup xs,.tup ys=>if xs.length+ys.length<=sizeLine then some (.tup (xs++ys),false)else none
 |_,_=>none
theorem JU (xs ys:List D)(z:xs.length+ys.length<=sizeLine):EL ql qG (.tup xs) (.tup ys)=some (.tup (xs++ys),false):=by
 cases xs with
 |nil=>
  have:ql (.tup []) (.tup ys)=none:=if_neg (λh=>by cases h.2);show(match ql (.tup []) (.tup ys) with|some z=>some z|none=>qG (.tup []) (.tup ys))=_;rw[this];rfl
 |cons a l=>
  have:ql (.tup (a::l)) (.tup ys)=some (.tup (a::l++ys),false):=if_pos ⟨z,rfl⟩;show(match ql (.tup (a::l)) (.tup ys) with|some z=>some z|none=>qG (.tup (a::l)) (.tup ys))=_;rw[this]
theorem G4:dR X (binaryOp .Add) (rD X.K Co):=by
 refine je (r:=rD X.K (EL ql qG)) (nW FV JR) λx y H Q q=>?_;obtain⟨B,dx,dy,d,bb,sB,ix,iy,ee,q⟩:=q;refine⟨B,dx,dy,d,bb,sB,ix,iy,?_,q⟩;cases ix<;>try (cases ee;done)
 cases iy<;>try (cases ee;done)
 rename_i l vs ds h hl l' ws es h' EE;simp only[Co]at ee;split at ee
 ·rename_i hz;rw[JU _ _ hz];exact ee
 ·cases ee
end
section
variable {X:Cx}
@[simp] def S2:List D->Option (D×Bool)
 |[d,.tup [.ty n,.ty m]]=>if QF d=true then none else if n = "list"/\m = "tuple" then some (.bl (k9 d == "list" || k9 d == "tuple"),false)else none
 |_=>none
end
@[simp] noncomputable def kh:D->Option cA
 |.int i=>some (.inl i)
 |.str x=>some (.inr x)
 |_=>none
theorem qH {K:PySem.W.Frag}{B:Hp}{v:V}{d:D}{k:cA}(i:Is K B v d)(e:kh d=some k):v=kV k:=by
 cases i<;>simp only[kh]at e<;>cases e<;>rfl
noncomputable def cG {κ:Type}[DecidableEq κ]:List κ->List D->κ->Option D
 |k'::ks,d::ds,k=>if k'=k then some d else cG ks ds k
 |_,_,_=>none
theorem wU {κ:Type}[DecidableEq κ]{K:PySem.W.Frag}{B:Hp}(k:κ):∀ {ks:List κ}{vs:List V}{ds:List D},ks.length=vs.length->IsL K B vs ds ->
  (∃v d,kj (ks.zip vs) k=some v/\cG ks ds k=some d/\Is K B v d)∨(kj (ks.zip vs) k=none/\cG ks ds k=none)
 |[],vs,ds,_,_=>.inr ⟨by cases vs<;>rfl,by cases ds<;>rfl⟩
 |k'::ks,[],_,h,_=>by simp at h
 |k'::ks,v::vs,_,h,.cons i is=>by
  rw[List.zip_cons_cons];unfold cG;by_cases e:k'=k
  ·rw[if_pos e];exact .inl ⟨v,_,mz (p:=(k',v)) e,rfl,i⟩
  ·rw[if_neg e,m4 (p:=(k',v)) e];exact wU k (by simpa using h) is
section
variable {X:Cx}{o e i:Expr}{pos:Pos}
@[simp] def G5:D->D->Option (D×Bool)
 |.dk ks vs,y=>(kh y).map λk=>((cG ks vs k).getD .non,false)
 |_,_=>none
theorem G6 {dM cM:Pos}{fo fe:FE}(hu:X.A.units+1<cLine)(ho:JE X o fo)(he:JE X e fe)(m:M1 X o "get" dM e cM):JE X (.Call (.Attribute o "get" dM) [e] [] cM) (f2 G5 fo fe):=by
 refine PE.to (xZ hu ho he m) λσ H Q q=>?_;obtain⟨B,ρ,d,bb,sB,r,ee,q⟩:=q;obtain⟨x,ex,ee⟩:=oX ee;obtain⟨y,ey,ee⟩:=oX ee;refine⟨B,ρ,x.1,x.2,sB,r,ex,λv H1 N1 x1 i1 ff=>?_⟩;obtain⟨xd,xb⟩:=x;cases i1 with
 |@dk a ks vs ds ob h hl hs=>
  simp only[G5]at ee;obtain⟨k,hk,ee⟩:=oY ee;cases ee
  refine⟨a,rfl,.inl ⟨_,_,.inl (x1.nh _ _ h)⟩,N1,ρ,y.1,y.2,x1.nh,r.mono x1.bn,ey,λv2 H2 N2 x2 i2 _=>?_⟩;have hv:=qH i2 hk;subst hv;refine⟨kj (ks.zip vs) k,.inl ⟨_,k,_,.inl (x2.nh _ _ (x2.bn _ _ h)),rfl,rfl⟩,?_⟩;have P5:=hs.mono x2.bn;rcases wU k hl P5 with⟨v,d',e1,e2,i3⟩|⟨e1,e2⟩
  ·rw[e1];rw[e2]at q;exact(q.into (x1.trans x2)).one x2.nh i3
  ·rw[e1];rw[e2]at q;exact(q.into (x1.trans x2)).one x2.nh .non
 |_=>simp[G5]at ee
@[simp] def ixK:D->D->Option (D×Bool)
 |.dk ks vs,y=>(kh y).bind λk=>(cG ks vs k).map λd=>(d,false)
 |_,_=>none
@[simp] def S3:D->D->Option (D×Bool)
 |y,.dk ks vs=>(kh y).map λk=>(.bl (cG ks vs k).isSome,false)
 |_,_=>none
@[simp] def qI:D->D->Option (D×Bool)
 |y,.dk ks vs=>(kh y).map λk=>(.bl (!(cG ks vs k).isSome),false)
 |_,_=>none
theorem uz {κ:Type}[DecidableEq κ]{K:PySem.W.Frag}{B:Hp}{k:κ}{ks:List κ}{vs:List V}{ds:List D}(hl:ks.length=vs.length)(hs:IsL K B vs ds):(kj (ks.zip vs) k).isSome=(cG ks ds k).isSome:=by
 rcases wU k hl hs with⟨v,d,e1,e2,_⟩|⟨e1,e2⟩
 ·rw[e1,e2];rfl
 ·rw[e1,e2];rfl
theorem DV {fi fo:FE}(hu:X.A.units+1<cLine)(hi:JE X i fi)(ho:JE X o fo)(hm:behindInMarks .NotIn o=false:=by first|exact jn _ (by decide) (by decide)|rfl):JT X (.Compare i [.NotIn] [o] pos) (bo (f2 qI fi fo)):=by
 refine PT.to (M5 (D7 hu hi ho) hm) λσ H Q q=>?_;obtain⟨B,ρ,d,bb,sB,r,ee,q⟩:=AA q;obtain⟨y,ey,ee⟩:=oX ee;obtain⟨x,ex,ee⟩:=oX ee;refine⟨B,ρ,y.1,y.2,sB,r,ey,λv2 H1 N1 x1 i2 _=>⟨N1,ρ,x.1,x.2,x1.nh,r.mono x1.bn,ex,λv H2 N2 x2 i1 ff=>?_⟩⟩;obtain⟨xd,xb⟩:=x;cases i1 with
 |@dk a ks vs ds ob h hl hs=>
  simp only[qI]at ee;obtain⟨k,hk,ee⟩:=oY ee;cases ee
  have hv:=qH i2 hk;subst hv;refine⟨a,kj (ks.zip vs) k,rfl,.inl ⟨_,k,_,.inl (x2.nh _ _ h),rfl,rfl⟩,?_⟩;rw[uz hl hs];exact(q.into (x1.trans x2)).one x2.nh (.bl _)
 |_=>simp[qI]at ee
end
noncomputable def dO {κ:Type}[DecidableEq κ](ks:List κ)(k:κ):List κ:=if k∈ks then ks else ks++[k]
noncomputable def dP {κ α:Type}[DecidableEq κ](ks:List κ)(xs:List α)(k:κ)(x:α):List α:=if k∈ks then List.zipWith (λk' x'=>if k'=k then x else x') ks xs else xs++[x]
theorem Cp {κ:Type}[DecidableEq κ](k:κ):∀ {ks:List κ}{vs:List V},ks.length=vs.length->((ks.zip vs).any λkv=>decide (kv.1=k))=decide (k∈ks)
 |[],_,_=>by simp
 |k'::ks,[],h=>by simp at h
 |k'::ks,v::vs,h=>by
  have ih:=Cp k (ks:=ks) (vs:=vs) (by simpa using h);rw[List.zip_cons_cons,List.any_cons,ih];by_cases e:k'=k
  ·simp[e]
  ·have e':¬k=k':=λz=>e z.symm;simp[e,e']
theorem Cq {κ:Type}[DecidableEq κ](k:κ)(v:V):∀(ks:List κ)(vs:List V),(ks.zip vs).map (λkv=>if kv.1=k then (kv.1,v)else kv)=ks.zip (List.zipWith (λk' x'=>if k'=k then v else x') ks vs)
 |[],_=>by simp
 |_::_,[]=>by simp
 |k'::ks,w::vs=>by
  rw[List.zip_cons_cons,uY,Cq k v ks vs,List.zipWith_cons_cons,List.zip_cons_cons];by_cases e:k'=k
  ·simp[e]
  ·simp[e]
theorem pL {κ:Type}[DecidableEq κ]{ks:List κ}{vs:List V}(hl:ks.length=vs.length)(k:κ)(v:V):mw (ks.zip vs) k v=(dO ks k).zip (dP ks vs k v):=by
 unfold mw dO dP;rw[Cp k hl];by_cases h:k∈ks
 ·rw[if_pos (decide_eq_true h),if_pos h,if_pos h,Cq]
 ·rw[if_neg (by simpa using h),if_neg h,if_neg h,List.zip_append hl];rfl
theorem mO {κ α:Type}[DecidableEq κ]{ks:List κ}{xs:List α}(hl:ks.length=xs.length)(k:κ)(x:α):(dO ks k).length=(dP ks xs k x).length:=by
 unfold dO dP;split<;>simp[hl]
theorem IsL.zipWith {κ:Type}[DecidableEq κ]{K:PySem.W.Frag}{B:Hp}{k:κ}{v:V}{d:D}(i:Is K B v d):∀ {ks:List κ}{vs:List V}{ds:List D},IsL K B vs ds->IsL K B (List.zipWith (λk' x'=>if k'=k then v else x') ks vs) (List.zipWith (λk' x'=>if k'=k then d else x') ks ds)
 |[],_,_,_=>by simpa using IsL.nil
 |_::_,_,_,.nil=>by simpa using IsL.nil
 |k'::ks,_,_,.cons h t=>by
  rw[List.zipWith_cons_cons,List.zipWith_cons_cons];refine .cons ?_ (IsL.zipWith i t);by_cases e:k'=k
  ·rw[if_pos e,if_pos e];exact i
  ·rw[if_neg e,if_neg e];exact h
theorem IsL.put {κ:Type}[DecidableEq κ]{K:PySem.W.Frag}{B:Hp}{k:κ}{v:V}{d:D}(i:Is K B v d){ks:List κ}{vs:List V}{ds:List D}(h:IsL K B vs ds):IsL K B (dP ks vs k v) (dP ks ds k d):=by
 unfold dP;split
 ·exact h.zipWith i
 ·exact h.append (.cons i .nil)
section
variable {K:PySem.W.Frag}{E:Ends}{σ:St}{H:Hp}
noncomputable def Cr (i:Nat):FS:=λρ=>some (.nx (ρ.set i (some (.dk [] [],true))))
noncomputable def G7 (i:Nat):FS:=λρ=>some (.nx (ρ.set i (some (.dt [] [],true))))
theorem eJ.newBox (s:eJ K B0 H0 N H σ ρ)(i:Nat)(hp:H p=none)(hb:∀C,Bx K C ob dd):eJ K B0 H0 (upd N p ob) (upd H p ob) (σ.set i (some (.ref p))) (ρ.set i (some (dd,true))):=by
 have x:=Ext.laid (o:=ob) s.ext.nh hp;have s1:=s.grow x;have WN:N p=none:=s.ext.nh.free hp;have Ze:¬own σ ρ p:=λz=>by obtain⟨ws,⟨q,_⟩,_⟩:=s.owned z;rw[WN]at q;cases q
 have c:aV (dU N (own σ ρ)) (dU (upd N p ob) (λb=>own σ ρ b∨b=p)):=eW λb u e q=>⟨x.bn _ _ e,λz=>z.elim q λz=>by subst z;rw[WN]at e;cases e⟩;refine s1.bindOwn aG (s.ext.hh.free hp) (λj e q z=>Ze ⟨j,e,q,z⟩) (λj e _ q=>?_) (λj e _ q=>?_) (hb _)
 ·obtain⟨w,h1,h2⟩:=s.sh j e q;exact⟨w,h1,h2.mono c⟩
 ·obtain⟨a',o',h1,h2,_,h4⟩:=s.ow j e q;exact⟨a',o',h1,x.bn _ _ h2,h4.mono c⟩
theorem G8 (q:nU K (Cr i) E σ H):xQ Fs (jX i) E σ H:=by
 obtain⟨B0,H0,ρ,r,⟨N,s⟩,e,p⟩:=q;cases e
 exact λa ob ha=>p _ _ ⟨_,s.newBox i ha λ_=>.dk (ks:=[]) (vs:=[]) rfl .nil⟩
theorem G9 (q:nU K (G7 i) E σ H):xQ Ft (jX i) E σ H:=by
 obtain⟨B0,H0,ρ,r,⟨N,s⟩,e,p⟩:=q;cases e
 exact λa ha=>p _ _ ⟨_,s.newBox i ha λ_=>.dt (ks:=[]) (vs:=[]) rfl .nil⟩
def yY (i:Nat)(fk fv:FE):FS:=λρ=>match ρ[i]? with
 |some (some (.dk ks vs,true))=>(fv ρ).bind λv=>(fk ρ).bind λk=>(kh k.1).bind λkk=>if bg v.1=true/\ks.length<sizeLine then some (.nx (ρ.set i (some (.dk (dO ks kk) (dP ks vs kk v.1),true))))else none
 |_=>none
theorem GA {i:Nat}{fk fv:FE}(q:nU K (yY i fk fv) E σ H):BI (EY i) (tD K fk) (tD K fv) E σ H:=by
 obtain⟨B0,H0,ρ,r,⟨N,s⟩,e,p⟩:=q;unfold yY at e;split at e
 ·rename_i ks ds ei;obtain⟨v,ev,e⟩:=oX e;obtain⟨k,ek,e⟩:=oX e;obtain⟨kk,hk,e⟩:=oX e;split at e
  ·rename_i hx;cases e
   refine⟨N,ρ,v.1,v.2,s.ext.nh,s.rep,ev,λv1 H1 N1 x1 i1 _=>?_⟩;have s1:=s.grow x1;obtain⟨a,o,h1,h2,h3,h4⟩:=s1.ow i _ ei;refine⟨.ref a,h1,N1,ρ,k.1,k.2,s1.ext.nh,s1.rep,ek,λv2 H2 N2 x2 i2 _=>?_⟩;have s2:=s1.grow x2;have hv:=qH i2 hk;subst hv;obtain⟨a',o',k1,k2,k3,k4⟩:=s2.ow i _ ei;rw[h1]at k1;cases k1
   cases k4 with
   |@dk ks vs ds hl h5 ob=>
    refine⟨a,rfl,.inl ⟨_,kk,_,s2.ext.nh _ _ k2,rfl,?_,λUz=>?_⟩⟩
    ·rw[List.length_zip];omega
    ·rw[pL hl];exact p σ _ ⟨_,s2.writeB ei h1 (.dk (mO hl _ _) (h5.put (s2.flat (i1.mono x2.bn) hx.1)))⟩
  ·cases e
 ·cases e
end
section
variable {X:Cx}{pos:Pos}{e k:Expr}
theorem Cs (hN:X.N.Nodup)(hi:X.N[i]? = some x:=by rfl)(hx:Ik X.env.scope x:=by first|exact Or.inl rfl|exact Or.inr rfl)(hs:swapsWith (.Dict [] [] dp) (some (.Name x p)) pos.line X.env=pure false:=by rfl)
  (hf:X.fn x=true∨X.env.scope.names.lookup x=some .local:=by first|exact .inl rfl|exact .inr rfl):JS X (.Assign [.Name x p] (.Dict [] [] dp) pos) (Cr i):=PS.to (we hN hi hx Fu hs hf) λ_ _ _ q=>G8 q
theorem JV (hN:X.N.Nodup)(hi:X.N[i]? = some x:=by rfl)(hx:Ik X.env.scope x:=by first|exact Or.inl rfl|exact Or.inr rfl)(hs:swapsWith (.Dict [] [] dp) (some (.Name x p)) pos.line X.env=pure false:=by rfl)
  (hf:X.fn x=true∨X.env.scope.names.lookup x=some .local:=by first|exact .inl rfl|exact .inr rfl):JS X (.Assign [.Name x p] (.Dict [] [] dp) pos) (G7 i):=PS.to (we hN hi hx Fv hs hf) λ_ _ _ q=>G9 q
theorem JX (hu:X.A.units+1<cLine)(hv:JE X e fv)(hk:JE X k fk)(hN:X.N[i]? = some y:=by rfl)(BB:EX X.env.scope y:=by first|exact Or.inl rfl|exact Or.inr (Or.inl rfl)|exact Or.inr (Or.inr rfl))(hd:(y == ("__debug__" : Str))=false:=by decide)
  (jG:(y == ("__classdict__" : Str))=false:=by decide) (hs:swapsWith e (some (.Subscript (.Name y py) k pt)) pos.line X.env=pure false:=by rfl):JS X (.Assign [.Subscript (.Name y py) k pt] e pos) (yY i fk fv) :=
 PS.to (wu hu (lO hN BB hd jG) hk hv hs) λ_ _ _ q=>GA q
end
section
variable {prog:Program}{w:World}{A:Around}{E:Value->Shared->Prop}{s:Shared}
abbrev NT (h:Heap)(z TI TO T0:Addr)(f:Bool):Prop:=h.get? z=some { cls:=.type "zip",dict:=none,data:=.fields #[rawInt T0,.bool f,.bool false,.ref TI,.ref TO],slots:=#[] }
end
def VJ (k1 k2:Bool)(z TI TO i1 i2 l1 l2 S:Addr)(i:Nat)(h:Heap):Prop :=
 IsPair h TI (.ref i1) (.ref i2)/\BY k1 h i1 l1 i/\BY k2 h i2 l2 i/\((IsZip h z TI TO .none/\∃a b,IsPair h TO a b)∨∃T0 f oT oO,NT h z TI TO T0 f/\h.get? T0=some oT/\T0∉[z,TI,TO,i1,i2]/\T0≠S/\h.get? TO=some oO)
section
variable {prog:Program}{w:World}{A:Around}{E:Value->Shared->Prop}{s:Shared}{k1 k2:Bool}{z TI TO i1 i2 l1 l2 S:Addr}{j:Nat}{xs ys:Array Value}
theorem VJ.ty (st:VJ k1 k2 z TI TO i1 i2 l1 l2 S j h):∃o,h.get? z=some o/\o.cls=.type "zip":=by
 obtain⟨_,_,_,a4⟩:=st;rcases a4 with⟨b1,_⟩|⟨T0,f,oT,oO,b1,_⟩
 ·exact⟨_,b1,rfl⟩
 ·exact⟨_,b1,rfl⟩
end
theorem qJ (h:H a=none):aV H (upd H a o):=λb u e=>by rw[aK (aY e h)];exact e
@[simp] def fLZ (fa fb:FE):FE:=λρ=>(TH fa fb ρ).map λds=>(.lst ds,true)
end DL
namespace DL
open PySem PySem.Spec PyProof.Rows
theorem wV:typeLookup (.type "list") "keys" = pure none:=by rw[typeLookup_type,builtinLookup_eq_fast];kernel_rfl
theorem DW 
  (hx:s.heap.get? a=some { cls:=.type "list",dict:=none,data:=.seq xs k,slots:=sl }) (hA:A.handled=none)
  (h:∀h' tk,(∀b o,s.heap.get? b=some o->h'.get? b=some o)->Q none { s with heap:=h',toks:=tk }):
  wpAny (model prog w) A (getAttr? (.ref a) "keys") Q E s:=by
 obtain⟨hp,g,d,tk,os⟩:=s;have hT:∀Dl,(⟨hp,g,d,Dl,os⟩:Shared).TypeIs (.ref a) "list":=λ_=>⟨_,hx,rfl⟩;have f1:=sub_AttributeError;have f3:=PySem.F.slot_list_getattribute.lookup;have f4:=PySem.F.slot_list_getattribute.bind (.ref a);have f5:=am_list_getattr_none;unfold getAttr? getAttrBy? getAttrBy;repeat (any_goals (first|assumption|exact hT _|((with_reducible show wpAny _ _ (call (Value.builtin "list.__getattribute__") _ _) _ _ _);refine call_meets PySem.F.slot_list_getattribute (hT _) am_entry_list_getattribute (PySem.F.args_list_getattribute_2 _ _) (meets_getattribute_miss_list a xs k sl "keys" _ wV (by decide) (by decide)) ⟨hx,hA,λh' Dl e hx'=>?_⟩)|wp_step))
 obtain⟨t',u',he⟩:=hx'.there;show wpAny _ _ (getattributeRaised _ _ _ _ _ _ _) _ _ _;unfold getattributeRaised;repeat (any_goals (first|assumption|wp_step))
 exact h _ _ hx'.of.keeps
end DL
namespace DL
open PySem PySem.Spec PyProof.Rows L2
def gs:List D->Option (List (cA×D))
 |[]=>some []
 |.tup [k,v]::r=>(kh k).bind λkk=>(gs r).map λl=>(kk,v)::l
 |_=>none
noncomputable def qK (a:List cA×List D)(p:cA×D):List cA×List D:=(dO a.1 p.1,dP a.1 a.2 p.1 p.2)
noncomputable def bX (l:List (cA×D)):List cA×List D:=l.foldl qK ([],[])
theorem qL (l:List (cA×D))(p:cA×D):bX (l++[p])=qK (bX l) p:=by unfold bX;rw[List.foldl_append];rfl
theorem qM:∀ {ds:List D}{l:List (cA×D)},gs ds=some l->l.length=ds.length
 |[],l,h=>by simp[gs]at h;subst h;rfl
 |d::r,l,h=>by
  unfold gs at h;split at h
  ·rename_i h0;cases h0
  ·rename_i k v r' h0;cases h0
   obtain⟨kk,_,h⟩:=oX h;obtain⟨l',h1,rfl⟩:=oY h;simp[qM h1]
  ·cases h
theorem qN:∀ {ds:List D}{l:List (cA×D)}{i:Nat}{d:D},gs ds=some l->ds[i]? = some d->∃k v kk,d=.tup [k,v]/\kh k=some kk/\l[i]? = some (kk,v)
 |[],l,i,d,_,h=>by simp at h
 |d0::r,l,i,d,h,hi=>by
  unfold gs at h;split at h
  ·rename_i h0;cases h0
  ·rename_i k v r' h0;cases h0
   obtain⟨kk,h2,h⟩:=oX h;obtain⟨l',h1,rfl⟩:=oY h;cases i with
   |zero=>simp at hi;subst hi;exact⟨k,v,kk,rfl,h2,rfl⟩
   |succ i=>simp only[List.getElem?_cons_succ]at hi ⊢;exact qN h1 hi
  ·cases h
theorem GB (l:List (cA×D)):∀a:List cA×List D,a.1.length=a.2.length->(l.foldl qK a).1.length=(l.foldl qK a).2.length/\(l.foldl qK a).1.length<=a.1.length+l.length:=by
 induction l with
 |nil=>intro a h;exact⟨h,vT _⟩
 |cons p l ih=>
  intro a h;have h1:(qK a p).1.length<=a.1.length+1:=by
   show(dO _ _).length<=_;unfold dO;split<;>simp
  have:=ih (qK a p) (mO h _ _);rw[List.foldl_cons,vE];exact⟨this.1,by omega⟩
theorem DX (l:List (cA×D)):(bX l).1.length=(bX l).2.length/\(bX l).1.length<=l.length:=by
 have:=GB l ([],[]) rfl;exact⟨this.1,vR this.2 (by simp)⟩
theorem u0:entryFor table "dict.update.loop" = some Builtin.«dict.update.loop»:=entryFor_of_tree (by kernel_rfl)
theorem lm:plainId "dict.update.loop" = true:=by decide +kernel
section
variable {X:Cx}{ae:List (Addr×Obj)}{σ:St}{B H0:Hp}{A:Around}{R:Result->Shared->Prop}{it l d:Addr}{us:List V}{ds:List D}{hU:List (cA×D)}
theorem Be (hA:A.handled=none)(nl:l≠it)(nd:d≠it)(hl:iP X.K B l us)(il:IsL X.K B us ds)(hp:gs ds=some hU)
  (hR:∀Hc N vs ob s',Inv X ae σ (upd Hc d (.dK ((bX hU).1.zip vs) ob)) s'->Hc d=none->Ext B N H0 Hc->(bX hU).1.length=vs.length->IsL X.K N vs (bX hU).2->R (.ok (.ret .none)) s'):
  ∀(k i:Nat)(tk:Nat)(s:Shared)(Hc N:Hp)(vs:List V)(ob:Obj),ds.length - i=k->i<=ds.length->Inv X ae σ (upd Hc d (.dK ((bX (hU.take i)).1.zip vs) ob)) s->Hc d=none->Ext B N H0 Hc->nO X ae (upd Hc d (.dK ((bX (hU.take i)).1.zip vs) ob)) it ->
   s.heap.IsListIter it l i->(bX (hU.take i)).1.length=vs.length->IsL X.K N vs (bX (hU.take i)).2 ->
   codeAny (model X.prog X.w) A (.builtin "dict.update.loop" ⟨[.ref d,.ref it,.int i tk,.none],[]⟩) R s:=by
 have n1:=il.length;have n2:=qM hp;intro k;induction k with
 |zero=>
  intro i tk s Hc N vs ob hk hi I hc xt fp st hz hv;have ET:i=ds.length:=by omega
  have sm:aV B (upd Hc d (.dK ((bX (hU.take i)).1.zip vs) ob)):=(xt.bn.trans xt.nh).trans (qJ hc);obtain⟨its,r1,p1,z1⟩:=I.list (sm.seq hl);have e1:=r1.length;refine codeAny_builtin u0 ?_;rw[Around.under_plainId lm _];show wpAny _ A.in1 (pyNext (.ref it)>>=_) _ _ s;refine wX (wpAny_pyNext_list_end (A:=A.in1) hA st p1.isList (by simp;omega) λh' fP=>?_);show wpAny _ _ (Builtin.Dict.addKeywords d []>>=_) _ _ _;refine wX (wY (wY ?_));have I1:=pH (t':=s.toks) (h':=h') (ch:=[it]) I (λb hb=>by rw[uT hb];exact fp) λb o hb e=>fP b o (λq=>hb (by simp[q])) e;rw[ET,←n2,List.take_length]at I1 hz hv;exact hR Hc N vs ob _ I1 hc xt hz hv
 |succ k ih=>
  intro i tk s Hc N vs ob hk hi I hc xt fp st hz hv;have fN:i<ds.length:=by omega
  have sm:aV B (upd Hc d (.dK ((bX (hU.take i)).1.zip vs) ob)):=(xt.bn.trans xt.nh).trans (qJ hc);obtain⟨its,r1,p1,z1⟩:=I.list (sm.seq hl);obtain⟨kd,vd,kk,ed,ek,el⟩:=qN hp (vU fN);obtain⟨x,hx,ix⟩:=il.get (vU fN);rw[ed]at ix;cases ix with
  |@tup T xs _ hT hxs=>
   cases hxs with
   |cons ik r=>
    cases r with
    |cons iv r=>
     cases r
     rename_i xk xv;have Zf:=qH ik ek;subst Zf;obtain⟨u,hu,ru⟩:=r1.get hx;cases (show u=Value.ref T from ru)
     refine codeAny_builtin u0 ?_;rw[Around.under_plainId lm _];show wpAny _ A.in1 (pyNext (.ref it)>>=_) _ _ s;refine wX (wpAny_pyNext_list_item (A:=A.in1) st p1.isList (x:=.ref T) (by simpa using hu) λh' jm hs=>?_);have I1:=pH (t':=s.toks) (h':=h') (ch:=[it]) I (λb hb=>by rw[uT hb];exact fp) λb o hb e=>hs.extBut b o (λq=>hb (by simp[q])) e;obtain⟨ps,r2,p2,z2⟩:=I1.tuple (bu sm hT);obtain⟨uk,uv,rfl,rk,rv⟩:=r2.two;have Zg:Shared.TypeIs { s with heap:=h' } (.ref T) "tuple":=by obtain⟨o,e,c,_⟩:=p2;exact⟨o,e,c⟩
     dsimp only;refine wX (wpAny_holding (wX (wpAny_tryCatch ?_)));unfold Builtin.Dict.pairItems;refine wX (wpAny_typeOf Zg ?_);obtain⟨oT,eT,cT,nT,dT⟩:=p2;rw[if_pos (by decide)];refine wX (wpAny_seqItems eT dT (wY ?_));show wpAny _ _ (holding [uk,uv] (dictSet d uk uv)) _ _ _;obtain⟨zz,UO,Zh,sT,dd⟩:=oF I1.hok (a:=d) aG;have Zi:Zh.length<=sizeLine:=by rw[←sT.length];exact zz
     have nk:((bX (hU.take i)).1.zip vs).length<sizeLine:=by
      have a1:=(DX (hU.take i)).2;have a2:=z1;rw[List.length_take]at a1;rw[List.length_zip];omega
     refine wpAny_holding (wpAny_dictSet_pairs (hsz:=Zi) (tT rk) dd λh2 Ov P5=>?_);have Dj:(mw ((bX (hU.take i)).1.zip vs) kk xv).length<=sizeLine:=by have:=k6 ((bX (hU.take i)).1.zip vs) kk xv;omega
     obtain⟨WO,Pr⟩:∃q,h2.get? d=some q:=let ⟨q,_,_,hq,_⟩:=Ov;⟨q,hq⟩;have I2:=wt (t':=s.toks+1) I1 (a:=d) (ob:=.dK (mw ((bX (hU.take i)).1.zip vs) kk xv) WO) (by rw[aG];exact True.intro) P5 ⟨_,Pr⟩ (Fp Dj UO (sT.put kk rv) Ov Pr);rw[IB,pL hz]at I2;have et:hU.take (i+1)=hU.take i++[(kk,vd)]:=by rw[List.take_add_one,el];rfl
     have WP:(bX (hU.take (i+1))).1=dO (bX (hU.take i)).1 kk:=by rw[et,qL];rfl
     have Zj:(bX (hU.take (i+1))).2=dP (bX (hU.take i)).1 (bX (hU.take i)).2 kk vd:=by rw[et,qL];rfl
     refine wY ⟨plainId_quiet lm _,?_⟩;refine ih (i+1) 0 _ Hc N (dP (bX (hU.take i)).1 vs kk xv) WO (by omega) fN (by rw[WP];exact I2) hc xt ?_ ?_ ?_ ?_
     ·obtain⟨f0,f1⟩:=fp;refine⟨?_,f1⟩;rw[aK nd.symm]at f0 ⊢;exact f0
     ·exact jm.at λo e=>(P5.2 it nd.symm).trans e
     ·rw[WP];exact mO hz _ _
     ·rw[Zj];exact hv.put (iv.mono xt.bn)
end
@[simp] def hV:List D->Option (D×Bool)
 |[.lst ds]=>(gs ds).map λhU=>(.dk (bX hU).1 (bX hU).2,false)
 |_=>none
theorem GC:bootBuiltins "dict" = some (.type "dict"):=by decide +kernel
section
variable {X:Cx}
theorem GD (Vh:X.calm=true):bT X (.type "dict") (A6 X.K hV):=by
 intro ae s σ H xs us Q I r h;obtain⟨B,dds,d0,bb,sB,i0,ee,q⟩:=h;cases i0 with
 |nil=>simp[hV]at ee
 |cons i1 i2=>
  cases i2 with
  |cons _ _=>cases i1<;>simp[hV]at ee
  |nil=>
   cases i1<;>try (simp[hV]at ee;done)
   rename_i l ws ds hl il;simp only[hV]at ee;obtain⟨hU,hp,ee⟩:=oY ee;cases ee
   obtain⟨u,rfl,rx⟩:=gZ r;cases rx
   have hA:X.A.handled=none:=I.ok.hd Vh;refine callType_codes (Q₁:=λobj s₁=>obj=.ref s.heap.objs.size/\s₁={ s with heap:=s.heap.push { cls:=.type "dict",data:=.dict #[] } }) PySem.F.kt_called_dict (PySem.F.kt_typeCall_dict_1 _) PySem.F.entry_dict_init (kt_code_dict_new _ ⟨rfl,rfl⟩) ?_;rintro obj s₁ ⟨rfl,rfl⟩;have I1:Inv X ae σ (upd H s.heap.objs.size (.dK [] { cls:=.type "dict",data:=.dict #[] })) { s with heap:=s.heap.push { cls:=.type "dict",data:=.dict #[] } }:=I.laid (t':=s.toks) (λb o e=>vZ _ e) (vT _) (xY s.heap I.big);have WQ:H s.heap.objs.size=none:=I.fresh;have hT:Shared.TypeIs { s with heap:=s.heap.push { cls:=.type "dict",data:=.dict #[] } } (.ref s.heap.objs.size) "dict":=⟨_,vY _ rfl,rfl⟩;refine⟨hT,PySem.F.args_dict_init_2 _ _,?_⟩;unfold Builtin.«dict.__init__»;refine wX ?_;unfold Builtin.Dict.selfAndRest;refine wX (wpAny_notOrdered_dict hT ?_);show wpAny _ _ (pure (s.heap.objs.size,[Value.ref l])) _ _ _;refine wY ?_;show wpAny _ _ (Builtin.Dict.updateFrom "dict.__init__" s.heap.objs.size (.ref l) [] .none) _ _ _;unfold Builtin.Dict.updateFrom;have sm:aV B (upd H s.heap.objs.size (.dK [] { cls:=.type "dict",data:=.dict #[] })):=sB.trans (qJ WQ);obtain⟨its,r1,p1,z1⟩:=I1.list (sm.seq hl);have pl:=p1.isList;obtain⟨ol,nl,SW,cl,WR,dl⟩:=p1;have Zk:Shared.TypeIs { s with heap:=s.heap.push { cls:=.type "dict",data:=.dict #[] } } (.ref l) "list":=⟨ol,SW,cl⟩;refine wX (wpAny_typeOf Zk ?_);rw[if_pos (by decide)];obtain⟨oc,od,oo,os⟩:=ol;simp only at cl WR dl;subst cl WR dl;refine wX (DW SW (by exact hA) λh' tk hk=>?_);dsimp only[Option.isNone_none];rw[if_pos rfl];have I2:Inv X ae σ (upd H s.heap.objs.size (.dK [] { cls:=.type "dict",data:=.dict #[] })) { s with heap:=h',toks:=tk }:=I1.kept (t':=tk) hk;refine wX (wpAny_rule ?_);refine wX (wpAny_pyIter_list (items:=its.toArray) ⟨_,hk _ _ SW,rfl,nl,rfl⟩ ?_);have I3:Inv X ae σ (upd H s.heap.objs.size (.dK [] { cls:=.type "dict",data:=.dict #[] })) { s with heap:=h'.push { cls:=.type "list_iterator",data:=.fields #[.ref l,.int 0 0] },toks:=tk }:=I2.kept (t':=tk) λb o e=>vZ _ e;have ld:s.heap.objs.size<h'.objs.size:=vX (hk _ _ (vY _ rfl));have ll:l<h'.objs.size:=vX (hk _ _ SW);refine wY ⟨plainId_quiet lm _,Be (A:=X.A.in1) (B:=B) (H0:=H) (l:=l) (d:=s.heap.objs.size) (it:=h'.objs.size) hA (vS ll) (vS ld) hl il hp (λHc N vs ob s' I' KE xt hz hv=>?_) _ 0 0 _ H B [] _ rfl (uN _) I3 WQ (Ext.refl sB) (I2.fpOk (vT _) (I2.hok.fresh (vT _))) ⟨_,vY _ rfl,rfl,rfl⟩ rfl .nil⟩;refine⟨rfl,.ref s.heap.objs.size,_,I',rfl,?_⟩;have x3:=xt.trans (Ext.laid (o:=.dK ((bX hU).1.zip vs) ob) xt.nh KE);exact q _ _ _ x3 (.dk aG hz (hv.mono (Ext.laid (o:=.dK ((bX hU).1.zip vs) ob) xt.nh KE).bn)) (by simp)
end
@[simp] noncomputable def VL:FE:=λ_=>none
@[simp] noncomputable def VM:FA:=λ_=>none
theorem NU (h:n+40<cLine):n+1<cLine:=by omega
@[simp] noncomputable def NV:D->D->Option (D×Bool)
 |.lst ds,.int k=>if 0<=k/\ds.length*k.toNat<=1000/\k<=1000 then some (.lst (List.replicate k.toNat ds).flatten,true)else none
 |_,_=>none
@[simp] def DY (fa fb:FE):FE:=λρ=>(fa ρ).bind λx=>if x.2=true then (fb ρ).bind λy=>NV x.1 y.1 else none
theorem IsL.rep {K:PySem.W.Frag}{H:Hp}{vs:List V}{ds:List D}(h:IsL K H vs ds):∀k:Nat,IsL K H (List.replicate k vs).flatten (List.replicate k ds).flatten
 |0=>.nil
 |k+1=>by rw[List.replicate_succ,List.replicate_succ,List.flatten_cons,List.flatten_cons];exact h.append (IsL.rep h k)
section
variable {X:Cx}{a b:Expr}{pos:Pos}
theorem GF {fa fb:FE}(ha:JE X a fa)(hb:JE X b fb):JE X (.BinOp a .Mult b pos) (DY fa fb):=by
 refine PE.to (Li Na ha hb) λσ H Q q=>?_;obtain⟨B,ρ,d,bb,sB,r,ee,q⟩:=q;obtain⟨x,ex,ee⟩:=oX ee;split at ee
 ·rename_i hx;obtain⟨⟨yd,yb⟩,ey,ee⟩:=oX ee;refine⟨B,ρ,x.1,x.2,sB,r,ex,λv H1 N1 x1 i1 fr=>⟨N1,ρ,yd,yb,x1.nh,r.mono x1.bn,ey,λu H2 N2 x2 i2 R9=>?_⟩⟩;obtain⟨a0,vs,ds,rfl,e1,h0,h1,il⟩:=fr hx;rw[e1]at ee;clear R9;cases i2<;>try (simp[NV]at ee;done)
  rename_i k;simp only[NV]at ee;split at ee
  ·rename_i hk;cases ee
   have hl:=il.length;refine⟨a0,k,vs,rfl,rfl,x2.nh _ _ (x2.bn _ _ h1),by omega,by omega,by rw[hl];exact vR hk.2.1 (by decide:(1000:Nat)<=sizeLine),λp hp=>?_⟩;have x3:=Ext.laid (o:=.lst (List.replicate k.toNat vs).flatten) x2.nh hp;have WS:=((il.mono x2.bn).mono x3.bn).rep k.toNat;exact q _ _ _ ((x1.trans x2).trans x3) (.lst (iP.of aG) WS) λ_=>⟨_,_,_,rfl,rfl,(x1.trans x2).hh.free hp,aG,WS⟩
  ·cases ee
 ·cases ee
end
def iV:List D->Option (List cA)
 |[]=>some []
 |d::ds=>(kh d).bind λk=>(iV ds).map (k :: ·)
theorem Bf {K:PySem.W.Frag}{B:Hp}:∀ {vs:List V}{ds:List D}{ks:List cA},IsL K B vs ds->iV ds=some ks->vs=ks.map kV
 |_,_,ks,.nil,e=>by simp[iV]at e;subst e;rfl
 |_,_,ks,.cons i is,e=>by
  simp only[iV]at e;obtain⟨k,h1,e⟩:=oX e;obtain⟨r,h2,rfl⟩:=oY e;rw[qH i h1,Bf is h2];rfl
@[simp] def GG (fo:FE)(fa:FA):FE:=λρ=>(fo ρ).bind λx=>(fa ρ).bind λds=>match x.1 with
 |.dt kss vs=>if ds.length<=sizeLine then (iV ds).map λk=>((cG kss vs k).getD .non,false)else none
 |_=>none
section
variable {X:Cx}{o:Expr}{es:List Expr}{pos:Pos}
theorem GH {dM cM E9:Pos}{x1:Nat}{fo:FE}{fa:FA}(hu:X.A.units+1<cLine)(ho:JE X o fo)(ha:JA X es fa)(m:M1 X o "get" dM (.Tuple es x1 E9) cM):JE X (.Call (.Attribute o "get" dM) [.Tuple es x1 E9] [] cM) (GG fo fa):=by
 refine PE.to (xZ hu ho (Aw ha) m) λσ H Q q=>?_;obtain⟨B,ρ,d,bb,sB,r,ee,q⟩:=q;obtain⟨x,ex,ee⟩:=oX ee;obtain⟨ds,ey,ee⟩:=oX ee;refine⟨B,ρ,x.1,x.2,sB,r,ex,λv H1 N1 x1 i1 ff=>?_⟩;obtain⟨xd,xb⟩:=x;cases i1 with
 |@dt a ks vs EA h hl hs=>
  simp only at ee;split at ee
  ·rename_i hz;obtain⟨k,hk,ee⟩:=oY ee;cases ee
   refine⟨a,rfl,.inr ⟨_,.inl (x1.nh _ _ h)⟩,N1,ρ,ds,x1.nh,r.mono x1.bn,ey,λus H2 N2 x2 i2=>?_⟩;have hv:=Bf i2 hk;have Zl:us.length<=sizeLine:=by rw[i2.length];exact hz
   refine⟨Zl,λp hp=>?_⟩;have x3:=Ext.laid (o:=.tup us) x2.nh hp;have Zm:N2 a=some (.dT (ks.zip vs)):=x2.bn _ _ h;refine⟨kj (ks.zip vs) k,.inr ⟨_,k,p,.inl (x3.nh _ _ (x3.bn _ _ Zm)),rfl,by rw[aG,hv],rfl⟩,?_⟩;have P5:=(hs.mono x2.bn).mono x3.bn;rcases wU k hl P5 with⟨v,d',e1,e2,i3⟩|⟨e1,e2⟩
   ·rw[e1];rw[e2]at q;exact(q.into ((x1.trans x2).trans x3)).one x3.nh i3
   ·rw[e1];rw[e2]at q;exact(q.into ((x1.trans x2).trans x3)).one x3.nh .non
  ·cases ee
 |_=>simp at ee
end
section
variable {K:PySem.W.Frag}{E:Ends}{σ:St}{H:Hp}
def u5 (i:Nat)(fk:FA)(fv:FE):FS:=λρ=>match ρ[i]? with
 |some (some (.dt ks vs,true))=>(fv ρ).bind λv=>(fk ρ).bind λkd=>(iV kd).bind λkk=>if bg v.1=true/\ks.length<sizeLine/\kd.length<=sizeLine then some (.nx (ρ.set i (some (.dt (dO ks kk) (dP ks vs kk v.1),true))))else none
 |_=>none
theorem GI {i:Nat}{fk:FA}{fv:FE}(q:nU K (u5 i fk fv) E σ H):BI (EY i) (Qn (OV K fk)) (tD K fv) E σ H:=by
 obtain⟨B0,H0,ρ,r,⟨N,s⟩,e,p⟩:=q;unfold u5 at e;split at e
 ·rename_i ks ds ei;obtain⟨v,ev,e⟩:=oX e;obtain⟨kd,ek,e⟩:=oX e;obtain⟨kk,hk,e⟩:=oX e;split at e
  ·rename_i hx;cases e
   refine⟨N,ρ,v.1,v.2,s.ext.nh,s.rep,ev,λv1 H1 N1 x1 i1 _=>?_⟩;have s1:=s.grow x1;obtain⟨a,o,h1,h2,h3,h4⟩:=s1.ow i _ ei;refine⟨.ref a,h1,N1,ρ,kd,s1.ext.nh,s1.rep,ek,λus H2 N2 x2 i2=>?_⟩;have s2:=s1.grow x2;have hv:=Bf i2 hk;refine⟨by rw[i2.length];exact hx.2.2,λpp hp=>?_⟩;have x3:=Ext.laid (o:=.tup us) s2.ext.nh hp;have s3:=s2.grow x3;obtain⟨a',o',k1,k2,k3,k4⟩:=s3.ow i _ ei;rw[h1]at k1;cases k1
   cases k4 with
   |@dt ks vs ds hl h5=>
    refine⟨a,rfl,.inr ⟨_,kk,pp,s3.ext.nh _ _ k2,rfl,by rw[aG,hv],?_,?_⟩⟩
    ·rw[List.length_zip];omega
    ·rw[pL hl];exact p σ _ ⟨_,s3.writeB ei h1 (.dt (mO hl _ _) (h5.put (s3.flat ((i1.mono x2.bn).mono x3.bn) hx.1)))⟩
  ·cases e
 ·cases e
end
section
variable {X:Cx}{pos:Pos}{e:Expr}{es:List Expr}
theorem JY (hu:X.A.units+1<cLine)(hv:JE X e fv)(hk:JA X es fk)(hN:X.N[i]? = some y:=by rfl)(BB:EX X.env.scope y:=by first|exact Or.inl rfl|exact Or.inr (Or.inl rfl)|exact Or.inr (Or.inr rfl))(hd:(y == ("__debug__" : Str))=false:=by decide)
  (jG:(y == ("__classdict__" : Str))=false:=by decide) (hs:swapsWith e (some (.Subscript (.Name y py) (.Tuple es x1 E9) pt)) pos.line X.env=pure false:=by rfl):JS X (.Assign [.Subscript (.Name y py) (.Tuple es x1 E9) pt] e pos) (u5 i fk fv) :=
 PS.to (wu hu (lO hN BB hd jG) (Aw hk) hv hs) λ_ _ _ q=>GI q
end
end DL
namespace DL
open PySem PySem.Spec PySem.W PyProof.Rows L2
section
variable {X:Cx}{a b c:Expr}{p pos:Pos}
noncomputable def NW (lo c:Int)(n:Nat):List D:=(List.range n).map λ(k:Nat)=>.int (lo+(k:Int)*c)
@[simp] def S4 (f g h:FE):FA:=λρ=>(f ρ).bind λx=>(g ρ).bind λy=>(h ρ).bind λz=>match x.1,y.1,z.1 with
 |.int i,.int j,.int c=>if(-1000<=i/\i<=1000/\-1000<=j/\j<=1000)/\(c=1∨c=2∨c=3)then some (NW i c (Builtin.Range.rangeSize i j c).toNat)else none
 |_,_,_=>none
end
end DL
namespace L2
open PySem PySem.Spec PyProof.Rows
noncomputable def TU (a:Addr)(aI:List (cA×V))(ob:Obj):It:=⟨λi H=>H a=some (.dK aI ob)/\i<aI.length,λi H x H'=>H'=H/\∃k v,aI[i]? = some (k,v)/\x=kV k,λi H=>H a=some (.dK aI ob)/\aI.length<=i⟩
noncomputable def TV (a:Addr)(aI:List (cA×V))(ob:Obj):It:=⟨λi H=>H a=some (.dK aI ob)/\i<aI.length,λi H x H'=>H'=H/\∃k,aI[i]? = some (k,x),λi H=>H a=some (.dK aI ob)/\aI.length<=i⟩
theorem KV.get {aI:List (cA×V)}{vs:List (cA×Value)}(r:KV aI vs){i:Nat}{k:cA}{x:V}(h:aI[i]? = some (k,x)):∃u,vs[i]? = some (k,u)/\ba x u:=by
 unfold KV at r;induction r generalizing i with
 |nil=>simp at h
 |@cons p q ps qs hq t ih=>
  cases i with
  |zero=>
   cases (show p=(k,x)from vK h)
   obtain⟨q1,q2⟩:=q;exact⟨q2,by rw[show k=q1 from hq.1];rfl,hq.2⟩
  |succ i=>exact ih h
theorem LM (h:(cw P w).is k u=true):ba (kV k) u:=by
 cases k with
 |inl i=>exact Value.isInt_shape h
 |inr z=>exact Value.isStrOf_shape h
section
variable {P:Program}{w:World}{H:Hp}{h:Heap}{a:Addr}
theorem lF (ok:lz P w H h)(e:H a=some (.dK aI ob))(hd:ob.data=.dict es ep):∃vs,KV aI vs/\h.DictAt (cw P w) a vs ep:=by
 obtain⟨_,_,vs,r,o,EO,Pk,h1,h2,h3,h4⟩:=oF ok e;rw[A5 ok e]at h1;cases h1
 rw[hd]at h3;cases h3
 exact⟨vs,r,ob,es,A5 ok e,h2,hd,h4⟩
theorem pM (ok:lz P w H h)(e:H a=some (.dK aI ob)):∃es ep,ob.data=.dict es ep:=by
 obtain⟨_,_,vs,r,o,EO,Pk,h1,h2,h3,h4⟩:=oF ok e;rw[A5 ok e]at h1;cases h1
 exact⟨EO,Pk,h3⟩
end
theorem DZ {P:Program}{w:World}{K:PySem.W.Frag}{tg:Expr}(a it:Addr)(aI:List (cA×V))(ob:Obj){es:Array DictEntry}{ep:Nat}(hd:ob.data=.dict es ep):Turn P w K tg (TV a aI ob) [it] it (λi h=>h.IsValIter it a i aI.length ep) where
 mem:=by simp
 obj:=λi h st b hb=>by
  have e:b=it:=by simpa using hb
  subst e;obtain⟨o,e,c,d⟩:=st;exact⟨o,e,λv z=>by rw[d]at z;cases z⟩
 keep:=λi h h' st k=>st.at λo e=>k it (by simp) o e
 item:=by
  intro X hP hw hK hc i ae s σ H E I hf st hg;subst hP hw hK;obtain⟨hH,fN⟩:=hg;obtain⟨vs,r,m⟩:=lF I.hok hH hd;obtain⟨f0,f1,f2,f3,f4,f5⟩:=hf it (by simp);have hl:vs.length=aI.length:=(Paired.length r).symm;obtain⟨u,hu,ru⟩:=r.get (k:=aI[i].1) (x:=aI[i].2) (vU fN);refine wpAny_pyNext_values_item (by rw[hl];exact st) m hu λh' jm sb=>?_;rw[hl]at jm;have I1:Inv X ae σ H { s with heap:=h' }:=I.turned (t':=s.toks) (λb o hb e=>(sb.2 b hb).trans e) f0 f1 f3 f4 f5;obtain⟨o,e,c,d⟩:=id jm;exact⟨u,rfl,pY (s:={ s with heap:=h' }) e c d (by decide) ⟨aI[i].2,H,I1,ru,⟨rfl,aI[i].1,vU fN⟩,jm,λb hb=>(hf b hb).1⟩⟩
 done:=by
  intro X hP hw hK hc i ae s σ H E I hf st hg;subst hP hw hK;obtain⟨hH,Ix⟩:=hg;obtain⟨vs,r,m⟩:=lF I.hok hH hd;obtain⟨f0,f1,f2,f3,f4,f5⟩:=hf it (by simp);have hl:vs.length=aI.length:=(Paired.length r).symm;exact wpAny_pyNext_values_end (I.ok.hd hc) (by rw[hl];exact st) m (List.getElem?_eq_none (by omega)) λh' eb=>⟨rfl,I.turned (t':=s.toks) (λb o hb e=>eb b o hb e) f0 f1 f3 f4 f5⟩
 self:=λ_ _ _ _ _ st h=>wpAny_pyIter_valiter st h
theorem Ea {P:Program}{w:World}{K:PySem.W.Frag}{tg:Expr}(a it:Addr)(aI:List (cA×V))(ob:Obj){es:Array DictEntry}{ep:Nat}(hd:ob.data=.dict es ep):Turn P w K tg (TU a aI ob) [it] it (λi h=>h.IsKeyIter it a i aI.length ep) where
 mem:=by simp
 obj:=λi h st b hb=>by
  have e:b=it:=by simpa using hb
  subst e;obtain⟨o,e,c,d⟩:=st;exact⟨o,e,λv z=>by rw[d]at z;cases z⟩
 keep:=λi h h' st k=>st.at λo e=>k it (by simp) o e
 item:=by
  intro X hP hw hK hc i ae s σ H E I hf st hg;subst hP hw hK;obtain⟨hH,fN⟩:=hg;obtain⟨vs,r,m⟩:=lF I.hok hH hd;obtain⟨f0,f1,f2,f3,f4,f5⟩:=hf it (by simp);have hl:vs.length=aI.length:=(Paired.length r).symm;obtain⟨u,hu,ru⟩:=r.get (k:=aI[i].1) (x:=aI[i].2) (vU fN);refine wpAny_pyNext_dict_item (by rw[hl];exact st) m hu λkey h' zX jm sb=>?_;rw[hl]at jm;have I1:Inv X ae σ H { s with heap:=h' }:=I.turned (t':=s.toks) (λb o hb e=>(sb.2 b hb).trans e) f0 f1 f3 f4 f5;obtain⟨o,e,c,d⟩:=id jm;exact⟨key,rfl,pY (s:={ s with heap:=h' }) e c d (by decide) ⟨kV aI[i].1,H,I1,LM zX,⟨rfl,aI[i].1,aI[i].2,vU fN,rfl⟩,jm,λb hb=>(hf b hb).1⟩⟩
 done:=by
  intro X hP hw hK hc i ae s σ H E I hf st hg;subst hP hw hK;obtain⟨hH,Ix⟩:=hg;obtain⟨vs,r,m⟩:=lF I.hok hH hd;obtain⟨f0,f1,f2,f3,f4,f5⟩:=hf it (by simp);have hl:vs.length=aI.length:=(Paired.length r).symm;exact wpAny_pyNext_dict_end (I.ok.hd hc) (by rw[hl];exact st) m (List.getElem?_eq_none (by omega)) λh' eb=>⟨rfl,I.turned (t':=s.toks) (λb o hb e=>eb b o hb e) f0 f1 f3 f4 f5⟩
 self:=λ_ _ _ _ _ st h=>wpAny_pyIter_keyiter st h
section
variable {X:Cx}{tg:Expr}
def QQ (td:TE):TI:=λσ H R=>td σ H λx H1=>∃a aI ob,x=.ref a/\H1 a=some (.dK aI ob)/\R (TU a aI ob) H1
theorem JZ {o:Expr}{td:TE}(ho:PE X o td):PI X tg o (QQ td):=by
 intro ae s σ H R I h;refine cY (ho ae s σ H _ I h) λv s1 ⟨x,H1,I1,r1,a,aI,ob,ex,hH,q⟩=>?_;subst ex;cases r1
 obtain⟨es,ep,hd⟩:=pM I1.hok hH;obtain⟨vs,r,m⟩:=lF I1.hok hH hd;have hl:vs.length=aI.length:=(Paired.length r).symm;refine wpAny_pyIter_dict (oF I1.hok hH).2.1 m ?_;rw[hl];refine⟨s1.heap.objs.size,[s1.heap.objs.size],_,_,H1,rfl,I1.kept (t':=s1.toks) λb o e=>vZ _ e,Ea a _ aI ob hd,⟨_,vY _ rfl,rfl,rfl⟩,λb hb=>?_,q⟩;have e:b=s1.heap.objs.size:=by simpa using hb
 subst e;exact I1.fpOk (vT _) (I1.hok.fresh (vT _))
def QR (td:TE):TI:=λσ H R=>td σ H λx H1=>∃a aI ob,x=.ref a/\H1 a=some (.dK aI ob)/\R (TV a aI ob) H1
theorem Ka {o:Expr}{td:TE}{dM cM:Pos}(ho:PE X o td)(iM:attributeBase o "values" X.env (eval o X.env)=eval o X.env:=by rfl)(iN:(dM.endLine == cM.line)=true:=by rfl):PI X tg (.Call (.Attribute o "values" dM) [] [] cM) (QR td):=by
 intro ae s σ H R I h;refine wpAny_Call_method0_late iM iN (cY (ho ae s σ H _ I h) λv s1 ⟨x,H1,I1,r1,a,aI,ob,ex,hH,q⟩=>?_);subst ex;obtain⟨h1,h2⟩:=A4 I1 r1 (T:="dict") (.inr (.inr (.inl ⟨rfl,.inl ⟨aI,ob,hH⟩⟩)));cases r1
 obtain⟨es,ep,hd⟩:=pM I1.hok hH;obtain⟨vs,r,m⟩:=lF I1.hok hH hd;have hl:vs.length=aI.length:=(Paired.length r).symm;refine⟨"dict","dict.values",PySem.F.plainAttrs_dict,PySem.F.slot_dict_values,PySem.F.type_dict_values,h1,h2,Calls.callWith_builtin rfl (PySem.evalArgs_none ?_)⟩;refine call_meetsIn PySem.F.slot_dict_values h1 PySem.F.entry_dict_values (PySem.F.args_dict_values_1 _) (meets_dict_values (cw X.prog X.w) a (oF I1.hok hH).2.1) ⟨⟨vs,m.dictOf⟩,?_⟩;have I2:Inv X ae σ H1 { s1 with heap:=s1.heap.push { cls:=.type "dict_values",data:=.fields #[.ref a] } }:=I1.kept (t':=s1.toks) λb o e=>vZ _ e;refine wpAny_pyIter_values (v:=s1.heap.objs.size) ⟨_,vY _ rfl,rfl,rfl⟩ (m.keep λb o e=>vZ _ e) ?_;rw[hl];refine⟨(s1.heap.push { cls:=.type "dict_values",data:=.fields #[.ref a] }).objs.size,[(s1.heap.push { cls:=.type "dict_values",data:=.fields #[.ref a] }).objs.size],_,_,H1,rfl,I2.kept (t':=s1.toks) λb o e=>vZ _ e,DZ a _ aI ob hd,⟨_,vY _ rfl,rfl,rfl⟩,λb hb=>?_,q⟩;have e:b=(s1.heap.push { cls:=.type "dict_values",data:=.fields #[.ref a] }).objs.size:=by simpa using hb
 subst e;exact I2.fpOk (vT _) (I2.hok.fresh (vT _))
end
end L2
namespace DL
open PySem PySem.Spec PySem.W PyProof.Rows L2
noncomputable def kD:cA->D
 |.inl i=>.int i
 |.inr z=>.str z
theorem LN {K:PySem.W.Frag}{B:Hp}(k:cA):Is K B (kV k) (kD k):=by
 cases k with
 |inl i=>exact .int i
 |inr z=>exact .str z
section
variable {K:PySem.W.Frag}{B:Hp}
theorem Kb {a:Addr}{ks:List cA}{vs:List V}{ds:List D}{ob:Obj}(h:B a=some (.dK (ks.zip vs) ob))(hl:ks.length=vs.length)(hs:IsL K B vs ds):p9 K (TV a (ks.zip vs) ob) B ds:=by
 intro i H s;have hz:(ks.zip vs).length=vs.length:=by rw[List.length_zip];omega
 refine⟨λd ed=>?_,λbK=>⟨s _ _ h,by rw[hz,hs.length];exact bK⟩⟩;obtain⟨v,ev,iv⟩:=hs.get ed;have fN:i<vs.length:=(vV ev).1;refine⟨⟨s _ _ h,by rw[hz];exact fN⟩,λy H3 hy=>?_⟩;obtain⟨rfl,k,e⟩:=hy;have:=(List.getElem?_zip_eq_some.mp e).2;rw[ev]at this;cases this
 exact⟨B,.refl s,iv⟩
theorem Kc {a:Addr}{ks:List cA}{vs:List V}{ob:Obj}(h:B a=some (.dK (ks.zip vs) ob))(hl:ks.length=vs.length):p9 K (TU a (ks.zip vs) ob) B (ks.map kD):=by
 intro i H s;have hz:(ks.zip vs).length=ks.length:=by rw[List.length_zip];omega
 refine⟨λd ed=>?_,λbK=>⟨s _ _ h,by rw[hz];rw[vI]at bK;exact bK⟩⟩;rw[vA]at ed;obtain⟨k0,ek,rfl⟩:=oY ed;have fN:i<ks.length:=(vV ek).1;refine⟨⟨s _ _ h,by rw[hz];exact fN⟩,λy H3 hy=>?_⟩;obtain⟨rfl,k,v,e,rfl⟩:=hy;have:=(List.getElem?_zip_eq_some.mp e).1;rw[ek]at this;cases this
 exact⟨B,.refl s,LN _⟩
end
section
variable {X:Cx}{e:Expr}{tg:Expr}
@[simp] noncomputable def qO (f:FE):FA:=λρ=>(f ρ).bind λx=>match x.1 with|.dk _ ds=>some ds|_=>none
@[simp] noncomputable def Bg (f:FE):FA:=λρ=>(f ρ).bind λx=>match x.1 with|.dk ks _=>some (ks.map kD)|_=>none
theorem Ct (h:JE X e f)(iM:attributeBase e "values" X.env (eval e X.env)=eval e X.env:=by rfl)(iN:(dM.endLine == cM.line)=true:=by rfl):JI X tg (.Call (.Attribute e "values" dM) [] [] cM) (qO f):=by
 intro ae s σ H R I q;obtain⟨B,ρ,ds,sB,r,e',q⟩:=q;obtain⟨⟨xd,xb⟩,ex,es⟩:=oX e';cases xd<;>try (cases es;done)
 cases es
 refine Ka h iM iN ae s σ H R I ⟨B,ρ,_,_,sB,r,ex,λv H1 N1 x1 i1 _=>?_⟩;cases i1 with
 |@dk a ks vs ds ob hd hl hs=>exact⟨a,_,ob,rfl,x1.nh _ _ hd,q _ H1 N1 x1 (Kb hd hl hs)⟩
theorem Kd {f:FE}(h:JE X e f):JI X tg e (Bg f):=by
 intro ae s σ H R I q;obtain⟨B,ρ,ds,sB,r,e',q⟩:=q;obtain⟨⟨xd,xb⟩,ex,es⟩:=oX e';cases xd<;>try (cases es;done)
 cases es
 refine JZ h ae s σ H R I ⟨B,ρ,_,_,sB,r,ex,λv H1 N1 x1 i1 _=>?_⟩;cases i1 with
 |@dk a ks vs ds ob hd hl hs=>exact⟨a,_,ob,rfl,x1.nh _ _ hd,q _ H1 N1 x1 (Kc hd hl)⟩
end
end DL
namespace DL
open PySem PySem.Spec PyProof.Rows L2
@[simp] abbrev dQ (i:Nat)(j:Int):FE:=f2 bP (ai i) (fC (.int j))
theorem bf (F:Fn X.prog X.w X.K X.mg X.base k x f)(hr:fg j X.A)(ha:JA X (e::es) fa)(hj:k<=j:=by decide)(hg:Gl X x:=by rfl)(sM:(x == ("__debug__" : Str))=false:=by decide)(he:starEach (e::es) X.env=(false,eval e X.env)::starEach es X.env:=by rfl)(lL:(backTo pos (starEach es X.env)).any (·.1)=false:=by rfl):JE X (.Call (.Name x p) (e::es) [] pos) (fA f fa):=BL F (hr.mono hj) ha hg sM he lL
theorem QS (h1:∀y∈scope.names,y.2≠.cell:=by decide +kernel)(h2:scope.kind=.function:=by rfl)(h3:∀y∈scope.names,y.2=.local->scope.names.lookup y.1=some .local:=by decide +kernel)(Pp:(scope.names.all λy=>!(y.2 == NameKind.free) || (X.env.cells.lookup y.1).isSome)=true:=by rfl):CompSc X scope (dW scope.names X.env.cells []):=Nk h1 h2 h3 Pp
theorem VN (h1:N'[j]? = some x)(h2:X.N[i]? = some x)(t:nL X N' scope (dW scope.names X.env.cells []) (j+1) r)(h3:X.env.kindOf x=some .cell∨X.env.kindOf x=some .free:=by exact Or.inl rfl)(h4:(relabel scope X.env).names.lookup x=some .cell∨(relabel scope X.env).names.lookup x=some .free:=by exact Or.inl rfl)(hf:(x,NameKind.free)∈scope.names:=by decide +kernel)(hc:(X.env.cells.lookup x).isSome=true:=by rfl):nL X N' scope (dW scope.names X.env.cells []) j (i::r):=.cons h1 h2 h3 h4 (pG hf hc) t
end DL
namespace DL
open PySem PySem.Spec PySem.W PyProof.Rows L2
noncomputable def oj:At->D
 |.i n=>.int n
 |.s z=>.str z
section
variable {prog:Program}{w:World}{A:Around}{E:Value->Shared->Prop}{s:Shared}
theorem QT (hx:yN x u)(hy:yN y v):SeqAt.EqAt A s u v (bG (oj x) (oj y)):=by
 cases x with
 |i a=>
  obtain⟨t,rfl⟩:=hx;cases y with
  |i c=>obtain⟨t',rfl⟩:=hy;simp only[oj,bG];exact SeqAt.EqAt.int_int _ _ _ _
  |s c=>obtain⟨t',rfl⟩:=hy;simp only[oj,bG];exact SeqAt.EqAt.int_str _ _ _ _
 |s a=>
  obtain⟨t,rfl⟩:=hx;cases y with
  |i c=>obtain⟨t',rfl⟩:=hy;simp only[oj,bG];exact SeqAt.EqAt.str_int _ _ _ _
  |s c=>obtain⟨t',rfl⟩:=hy;simp only[oj,bG];exact SeqAt.EqAt.str_str _ _ _ _
theorem Cu:∀ {xs ys:List At}{vs:List Value},Paired yN xs vs->Paired yN ys vs->xs=ys
 |_,_,_,.nil,.nil=>rfl
 |x::xs,y::ys,_,.cons p ps,.cons q qs=>by
  rw[Cu ps qs];congr 1;cases x with
  |i a=>
   obtain⟨t,rfl⟩:=p;cases y with
   |i c=>obtain⟨t',e⟩:=q;cases e;rfl
   |s c=>obtain⟨t',e⟩:=q;cases e
  |s a=>
   obtain⟨t,rfl⟩:=p;cases y with
   |i c=>obtain⟨t',e⟩:=q;cases e
   |s c=>obtain⟨t',e⟩:=q;cases e;rfl
theorem NX (x y:At):bG (oj x) (oj y)=true↔x=y:=by
 cases x<;>cases y<;>simp[oj]
theorem pN:∀xs ys:List At,dB (xs.map oj) (ys.map oj)=true↔xs=ys
 |[],[]=>by simp[dB]
 |[],_::_=>by simp[dB]
 |_::_,[]=>by simp[dB]
 |x::xs,y::ys=>by
  rw[uY,uY,dB,vC,NX,pN xs ys];simp
theorem NY (hx:fB s.heap xs x)(hy:fB s.heap ys y)(hu:A.units<cLine):SeqAt.EqAt A s x y (dB (xs.map oj) (ys.map oj)):=by
 obtain⟨a,o,its,n,rfl,ho,hc,hd,r⟩:=hx;obtain⟨b,o',gA,m,rfl,xB,KE,E7,r'⟩:=hy;by_cases hab:a=b
 ·subst hab;rw[ho]at xB;cases xB;rw[hd]at E7;cases E7;rw[Cu r r',(pN ys ys).mpr rfl];exact SeqAt.EqAt.same _
 ·have t1:s.heap.IsTuple a its:=⟨o,ho,hc,n,hd⟩;have t2:s.heap.IsTuple b gA:=⟨o',xB,KE,m,E7⟩;have l1:xs.length=its.size:=by rw[←vG];exact gp r
  have l2:ys.length=gA.size:=by rw[←vG];exact gp r'
  have he:∀j (h1:j<its.size) (h2:j<gA.size),SeqAt.EqAt A.in1 s its[j] gA[j] (bG ((xs.map oj).getD j .non) ((ys.map oj).getD j .non)):=λj h1 h2=>by
   have p:=fD (.i 0) Value.none r (i:=j) (by omega);have q:=fD (.i 0) Value.none r' (i:=j) (by omega);have e1:its.toList.getD j Value.none=its[j]:=by rw[vF,Array.getElem?_toList,Array.getElem?_eq_getElem h1];rfl
   have e2:gA.toList.getD j Value.none=gA[j]:=by rw[vF,Array.getElem?_toList,Array.getElem?_eq_getElem h2];rfl
   rw[e1]at p;rw[e2]at q;have e3:(xs.map oj).getD j .non=oj (xs.getD j (.i 0)):=by simp[vF,show j<xs.length by omega]
   have e4:(ys.map oj).getD j .non=oj (ys.getD j (.i 0)):=by simp[vF,show j<ys.length by omega]
   rw[e3,e4];exact QT p q
  have rc:=SeqAt.RcAt.tuples t1 t2 hu he;have R0:((List.range (min its.size gA.size)).all (λj=>bG ((xs.map oj).getD j .non) ((ys.map oj).getD j .non)) && its.size == gA.size)=dB (xs.map oj) (ys.map oj):=by
   rw[←l1,←l2];by_cases hl:xs.length=ys.length
   ·rw[←hl,Nat.min_self,beq_self_eq_true,Bool.and_true];have:=jJ (λj=>bG ((xs.map oj).getD j .non) ((ys.map oj).getD j .non)) (xs:=xs.map oj) (ys:=ys.map oj) (by simpa using hl) λj x y e1 e2=>wA j x y e1 e2;rwa [vI]at this
   ·rw[w6 (by simpa using hl),beq_eq_false_iff_ne.mpr hl,Bool.and_false]
  rw[R0]at rc;exact SeqAt.EqAt.of_refs hab rc
theorem Eb (xs:List At):aZ xs xs=some false:=by
 induction xs with
 |nil=>rfl
 |cons x xs ih=>cases x<;>rw[aZ,if_pos rfl,ih]
theorem GJ (hx:fB s.heap xs x)(hy:fB s.heap ys y)(h:aZ (.i n::xs) (.i m::ys)=some b)(hu:A.units<cLine)(q:Q b s)(hn:yN (.i n) u)(hm:yN (.i m) v):KatLex prog w A true false Q [(u,v),(x,y)] 0 s:=by
 obtain⟨t,rfl⟩:=hn;obtain⟨t',rfl⟩:=hm;refine kat_cons (wpAny_eqBool_int ?_);rw[aZ]at h;by_cases e:n=m
 ·rw[if_pos e]at h;rw[show(n == m)=true by simp[e]];refine kat_yes (kat_cons (NY hx hy hu _ _ _ _ ?_));by_cases e2:xs=ys
  ·rw[(pN xs ys).mpr e2];rw[e2,Eb]at h;cases h
   exact kat_yes (kat_nil q)
  ·rw[Bool.eq_false_iff.mpr λz=>e2 ((pN xs ys).mp z)];refine kat_no (kat_one _ _ ?_);show wpAny _ _ (richCompare .Lt x y) _ _ _;exact G3 (Q:=W.BoolBack Q) hx hy h hu (by first|exact q|exact⟨b,rfl,q⟩)
 ·rw[if_neg e]at h;cases h
  rw[show(n == m)=false by simp[e]];exact kat_no (oneLt_int q)
end
def Ec (h:Heap)(xs:List At)(v:Value):Prop:=∃n k a o its m u x,xs=.i n::k/\v=.ref a/\h.get? a=some o/\o.cls=.type "tuple"/\o.data=.seq its m/\its.toList=[u,x]/\yN (.i n) u/\fB h k x
section
variable {prog:Program}{w:World}{A:Around}{E:Value->Shared->Prop}{s:Shared}
theorem Ke (hx:Ec s.heap xs x)(hy:Ec s.heap ys y)(h:aZ xs ys=some b)(hu:A.units<cLine)(q:Q b s):wpAny (model prog w) A (keyLt' (tuples' true) x y) Q E s:=by
 obtain⟨n,k,a,o,its,m,u,x',rfl,rfl,ho,_,hd,ei,an,tx⟩:=hx;obtain⟨n',k',a',o',its',m',u',y',rfl,rfl,xB,_,E7,WT,Zn,ty⟩:=hy;refine kat_lt ho hd xB E7 ?_;rw[ei,WT];have hf:decide (its.size<its'.size)=false:=by
  rw[←vG,←vG,ei,WT];rfl
 rw[hf];exact GJ tx ty h hu q an Zn
theorem oN:∀ {ks:List (List At)}{vs:List Value},Paired (Ec h) ks vs->∃fs,KatTups h vs fs/\fs.length=ks.length/\∀v∈fs,∃n,yN (.i n) v
 |_,_,.nil=>⟨[],trivial,rfl,by simp⟩
 |k::ks,_,.cons x t=>by
  obtain⟨fs,h1,h2,h3⟩:=oN t;obtain⟨n,k,a,o,its,m,u,x',rfl,rfl,ho,hc,hd,ei,an,_⟩:=x;refine⟨u::fs,KatTups.cons ho hc hd (by rw[←Array.getElem?_toList,ei];rfl) h1,by simp[h2],λv hv=>?_⟩;rcases vP hv with rfl|hv
  ·exact⟨n,an⟩
  ·exact h3 v hv
theorem Ed (hp:Paired (Ec s.heap) ks vs)(hn:0<ks.length)(q:Q (tuples' true) s):wpAny (model prog w) A (keyKind' vs.toArray) Q E s:=by
 obtain⟨fs,h1,h2,h3⟩:=oN hp;refine kat_kind (T:=.type "int") h1 (by omega) (λv hv=>?_) (by decide) q;obtain⟨n,t,rfl⟩:=h3 v hv;exact .now
theorem GK (hc:dz ks=true)(hu:A.units<cLine)(hp:Paired (Ec s.heap) ks vs):∀(i j:Nat)(C:Bool->Shared->Prop)(s1:Shared),i<ks.length->j<ks.length->s1=s->(∀s',s'=s->C (qx (An ks) i j) s')->kas_ask prog w A (tuples' true) vs i j C s1:=by
 intro i j C s1 hi hj e hC;subst e;unfold kas_ask;have mi:ks.getD i []∈ks:=by rw[vF,vU hi];exact List.getElem_mem hi
 have mj:ks.getD j []∈ks:=by rw[vF,vU hj];exact List.getElem_mem hj
 refine Ke (fD [] Value.none hp hi) (fD [] Value.none hp hj) (im hc mi mj) hu ?_;have:=hC s1 rfl;unfold qx An at this;rw[yM (uS ⟨_,mi,rfl⟩)]at this;exact this
end
def NZ:D->Option (List At)
 |.tup [.int n,.tup es]=>(df es).map (.i n :: ·)
 |_=>none
def j0:List D->Option (List (List At))
 |[]=>some []
 |d::ds=>(NZ d).bind λa=>(j0 ds).map (a :: ·)
theorem u6:∀ {ds:List D}{ks:List (List At)},j0 ds=some ks->ks.length=ds.length
 |[],_,h=>by simp only[j0]at h;cases h;rfl
 |d::ds,_,h=>by
  simp only[j0]at h;obtain⟨a,h1,h⟩:=oX h;obtain⟨r,h2,h⟩:=oY h;subst h;simp[u6 h2]
theorem yZ (I:Inv X ae σ H s):∀ {ys:List V}{ds:List D}{ks:List (List At)}{its:List Value},aX ys its->IsL X.K H ys ds->j0 ds=some ks->Paired (Ec s.heap) ks its
 |_,_,_,_,.nil,.nil,h=>by simp only[j0]at h;cases h;exact .nil
 |_,_,_,_,.cons r rr,.cons i ii,h=>by
  simp only[j0]at h;obtain⟨a,h1,h⟩:=oX h;obtain⟨t,h2,h⟩:=oY h;subst h;refine .cons ?_ (yZ I rr ii h2);unfold NZ at h1;split at h1
  ·rename_i n es;obtain⟨k,OH,rfl⟩:=oY h1;cases i with
   |tup hq hl=>
    cases r
    obtain⟨its',r',⟨o,ho,hc,m,hd⟩,_⟩:=I.tuple hq;cases hl with
    |cons i1 hl=>
     cases hl with
     |cons i2 hl=>
      cases hl
      cases r' with
      |cons r1 r'=>
       cases r' with
       |cons r2 r'=>
        cases r'
        cases i1
        have hk:dA [D.tup es]=some [k]:=by show(df es).bind _=_;rw[OH];rfl
        have ht:=mK I (.cons r2 .nil) (.cons i2 .nil) hk;cases ht with
        |cons ht _=>exact⟨n,k,_,o,_,m,_,_,rfl,rfl,ho,hc,hd,rfl,r1,ht⟩
  ·cases h1
theorem Kf (hu:A.units<cLine):KK X A j0 λ_=>true:=⟨u6,λI _ _ _ _ r i e _ hc=>have hp:=yZ I r i e;⟨λhn _ _ q=>Ed hp hn q,GK hc hu hp⟩⟩
theorem GL (hu:X.A.units+40<cLine):KK X X.A.in1.in1 j0 λ_=>true:=Kf (show X.A.units+1+1<cLine by omega)
@[simp] abbrev Bh:FE->(Env->D->Option D)->FE:=wT j0 λ_=>true
end DL
namespace DL
open PySem PySem.Spec PyProof.Rows L2
def QU:Nat->(List Value->Prop)->Prop
 |0,P=>P []
 |n+1,P=>∀a,QU n λl=>P (a::l)
theorem Oa:∀n P,QU n P->∀us:List Value,us.length=n->P us
 |0,_,h,[],_=>h
 |n+1,_,h,a::us,e=>Oa n _ (h a) us (Nat.succ.inj e)
section
variable {P:Program}{w:World}{K:PySem.W.Frag}{mg:Str->Option Value}{base:Heap}
def KC (K:PySem.W.Frag)(mg:Str->Option Value)(x:Str)(c:D):Prop:=∃u v,mg x=some u/\ba v u/\∀B,Is K B v c
def KD (w:World)(K:PySem.W.Frag)(mg:Str->Option Value)(x:Str)(c:List (Str×D)):Prop:=∃d,mg x=some (.ref d)/\ua K w.params d c
theorem kc_of {x:Str}{c:D}{h:Heap}(X:K.In h)(G:h.Ns mainGlobals mg)(k:∃u v,PySem.W.nsIn K mainGlobals x=some (some u)/\ba v u/\∀B,Is K B v c):KC K mg x c:=let ⟨u,v,e,r⟩:=k;⟨u,v,PySem.W.mg_of X G e,r⟩
theorem kd_of {x:Str}{c:List (Str×D)}{h:Heap}(X:K.In h)(G:h.Ns mainGlobals mg)(k:∃d,PySem.W.nsIn K mainGlobals x=some (some (.ref d))/\ua K w.params d c):KD w K mg x c:=let ⟨d,e,r⟩:=k;⟨d,PySem.W.mg_of X G e,r⟩
theorem dN.fqL {x:Str}{st:Stmt}{k:Nat}{F':List D->Option (D×Bool)}(F:dN K x st)(B:∃h,K.In h/\h.Ns mainGlobals mg)(g:FS)(N:List Str)(n:Nat)
  (hb:∀ {f:Addr}{eU:Value}{A:Around}{outer:List PySem.Env}{s:Shared}{H:Hp}{E:XK},N.Nodup->fg k (A.deeper (envOfC x (aQ st) s.heap.objs.size f eU))->(A.deeper (envOfC x (aQ st) s.heap.objs.size f eU)).units+40<cLine->(∀c P,PySem.W.tabIn K x=some (c,P)->eU=.ref c)->xG (p7 Ak P w K mg base N x (aQ st) f eU A outer s H E).nox (cO st) g)
  (S:FnScope N (N.take n) (aQ st):=by refine⟨rfl,rfl,rfl,?_,rfl,?_,?_⟩<;>decide +kernel)
  (KW:∀(kV doc pm:Value)(an:Option Addr)(eU ct:Value)(us:List Value),us.length=(N.take n).length->bindArgs (PySem.W.fnOf x x (gB st) (cO st) (aQ st) .none kV doc pm an eU ct) ⟨us,[]⟩=pure ((N.take n).zip us):=by
   exact λ_ _ _ _ _ _=>Oa _ _ (by(repeat intro);rfl))
  (e:aN g (N.take n).length (N.length - (N.take n).length)=F':=by rfl):
  Fn P w K mg base (k+1) x F':=let ⟨_,X,G⟩:=B;e ▸ F.fnL X G S KW λ_ _ _ _ _ _ _ hc hr=>hb S.nd hr (DC hr) hc
theorem dN.fq {x:Str}{st:Stmt}{k:Nat}{F':List D->Option (D×Bool)}(F:dN K x st)(B:∃h,K.In h/\h.Ns mainGlobals mg)(g:FS)(N:List Str)(n:Nat)
  (hb:∀ {f:Addr}{eU:Value}{A:Around}{outer:List PySem.Env}{s:Shared}{H:Hp}{E:XK},N.Nodup->fg k (A.deeper (envOfC x (aQ st) s.heap.objs.size f eU))->(A.deeper (envOfC x (aQ st) s.heap.objs.size f eU)).units+40<cLine->xG (p7 Ak P w K mg base N x (aQ st) f eU A outer s H E).nox (cO st) g)
  (S:FnScope N (N.take n) (aQ st):=by refine⟨rfl,rfl,rfl,?_,rfl,?_,?_⟩<;>decide +kernel)
  (KW:∀(kV doc pm:Value)(an:Option Addr)(eU ct:Value)(us:List Value),us.length=(N.take n).length->bindArgs (PySem.W.fnOf x x (gB st) (cO st) (aQ st) .none kV doc pm an eU ct) ⟨us,[]⟩=pure ((N.take n).zip us):=by
   exact λ_ _ _ _ _ _=>Oa _ _ (by(repeat intro);rfl))
  (e:aN g (N.take n).length (N.length - (N.take n).length)=F':=by rfl):
  Fn P w K mg base (k+1) x F':=F.fqL B g N n (λn r u _=>hb n r u) S KW e
end
section
variable {X:Cx}{x:Str}{pos:Pos}
theorem Ao (i:Nat)(hN:X.N.Nodup)(hi:X.N[i]? = some x:=by rfl)(hx:Ik X.env.scope x:=by first|exact Or.inl rfl|exact Or.inr rfl)(hf:X.fn x=true∨X.env.scope.names.lookup x=some .local:=by first|exact .inl rfl|exact .inr rfl):PG X (.Name x pos) (jX i):=BD hN hi hx hf
theorem Pd {fp}(i:Nat)(hN:N'.Nodup:=by decide +kernel)(hi:(fQ X N' scope cl C s H fp).N[i]? = some x:=by rfl)(hx:Ik (fQ X N' scope cl C s H fp).env.scope x:=by exact Or.inl rfl)(hf:(fQ X N' scope cl C s H fp).fn x=true∨(fQ X N' scope cl C s H fp).env.scope.names.lookup x=some .local:=by first|exact .inl rfl|exact .inr rfl):PG (fQ X N' scope cl C s H fp) (.Name x pos) (jX i):=BD hN hi hx hf
theorem gN (N':List Str)(hi:JI X tg dr fi)(hc:∀ {C s H fp},JC (fQ X N' scope (dW scope.names X.env.cells []) C s H fp) xC fc)(he:∀ {C s H fp},JE (fQ X N' scope (dW scope.names X.env.cells []) C s H fp) zZ fe)
  (KS:Nl X.K nT sU g:=by first|exact yf (by decide)|exact LG (by decide)) (hg:∀ {C s H fp},PG (fQ X N' scope (dW scope.names X.env.cells []) C s H fp) tg g:=by intros;first|exact Pd 0|exact wc rfl (eV (Pd 0) (eV (Pd 1) mq)))
  (cp:nL X N' scope (dW scope.names X.env.cells []) nT cap:=by repeat first|exact .nil rfl|refine VN rfl rfl ?_)
  (S:CompSc X scope (dW scope.names X.env.cells []):=by exact QS) (lM:X.calm=true:=by rfl)
  (hs:∀x,foldedSetIterable dr X.env x=pure x:=by intro _;rfl):
  JE X (.ListComp zZ [⟨tg,dr,xC,0⟩] scope pos) (bL fi nT cap sU fc fe):=Jn lM S cp hi (λ_ _ _ _=>hg) KS (λ_ _ _ _=>hc) (λ_ _ _ _=>he) hs
theorem mP (N':List Str)(hN:X.N.Nodup)(hi:JI X tg dr fi)(hc:∀ {C s H fp},JC (fQ X N' scope (dW scope.names X.env.cells []) C s H fp) xC fc)(he:∀ {C s H fp},JE (fQ X N' scope (dW scope.names X.env.cells []) C s H fp) zZ fe)
  (KS:Nl X.K nT sU g:=by first|exact yf (by decide)|exact LG (by decide)) (hg:∀ {C s H fp},PG (fQ X N' scope (dW scope.names X.env.cells []) C s H fp) tg g:=by intros;first|exact Pd 0|exact wc rfl (eV (Pd 0) (eV (Pd 1) mq)))
  (cp:nL X N' scope (dW scope.names X.env.cells []) nT cap:=by repeat first|exact .nil rfl|refine VN rfl rfl ?_)
  (ED:X.N[i]? = some y:=by rfl) (hy:X.env.kindOf y=some .local:=by rfl)
  (Rz:swapsWith (.ListComp zZ [⟨tg,dr,xC,0⟩] scope pos) (some (.Name y py)) spos.line X.env=pure true:=by rfl)
  (S:CompSc X scope (dW scope.names X.env.cells []):=by exact QS) (lM:X.calm=true:=by rfl)
  (hs:∀x,foldedSetIterable dr X.env x=pure x:=by intro _;rfl):
  JS X (.Assign [.Name y py] (.ListComp zZ [⟨tg,dr,xC,0⟩] scope pos) spos) (aO i (bL fi nT cap sU fc fe)):=Jo lM hN ED hy Rz S cp hi (λ_ _ _ _=>hg) KS (λ_ _ _ _=>hc) (λ_ _ _ _=>he) hs
theorem uA (hi:JI X tg dr fi)(hg:PG X tg t)(ht:Jk X.K sU t)(hb:xG X body g)(hp:PassesOwn (model X.prog X.w) X.A X.env X.xe:=by exact PassesOwn.never)(hc:X.calm=true:=by rfl)
  (hs:∀x,foldedSetIterable dr X.env x=pure x:=by intro _;rfl):JS X (.For tg dr body [] pos) (qg fi sU g):=Nr hp hc hi hg ht hb hs
theorem uB (hi:PI X tg dr (Su X.K fi))(hg:PG X tg t)(ht:Jk X.K sU t)(hb:xG X body g)(hp:PassesOwn (model X.prog X.w) X.A X.env X.xe:=by exact PassesOwn.never)(hc:X.calm=true:=by rfl)
  (hs:∀x,foldedSetIterable dr X.env x=pure x:=by intro _;rfl):JS X (.For tg dr body [] pos) (jZ fi sU g):=Jt hp hc hi hg ht hb hs
end
end DL
namespace DL
open PySem PySem.Spec PySem.W PyProof.Rows L2
section
variable {X:Cx}
@[simp] def nGe:D->D->Option (D×Bool)
 |.tup [.int n,.tup xs],.tup [.int m,.tup ys]=>(df xs).bind λas=>(df ys).bind λbs=>(aZ (.i n::as) (.i m::bs)).map λr=>(.bl (!r),false)
 |_,_=>none
end
theorem qP:entryFor table "dict_itemiterator.__iter__" = some Builtin.«dict_keyiterator.__iter__»:=entryFor_alias (id':="dict_keyiterator.__iter__") (by kernel_rfl) rfl (by decide +kernel) (by kernel_rfl)
theorem wW (he:IsItemIter s.heap it d i n ep ok ov)(h:Q (.ref it) s):wpAny (model prog w) A (pyIter (.ref it)) Q E s:=by
 have hT:s.TypeIs (.ref it) "dict_itemiterator":=⟨_,he,rfl⟩;refine wpAny_pyIter_slot hT PySem.F.slot_dict_itemiterator_iter (wpAny_call_entry PySem.F.slot_dict_itemiterator_iter hT qP ?_ (PySem.F.args_dict_itemiterator_iter_1 _));show wpAny _ _ (ret (.ref it)) _ _ s;exact wY ⟨_,rfl,"dict_itemiterator",_,hT,PySem.F.slot_dict_itemiterator_next.lookup,h⟩
noncomputable def TW (a:Addr)(aI:List (cA×V))(ob:Obj):It:=⟨λi H=>H a=some (.dK aI ob)/\i<aI.length,λi H y H'=>∃T k v,y=.ref T/\H T=none/\H'=upd H T (.tup [kV k,v])/\aI[i]? = some (k,v),λi H=>H a=some (.dK aI ob)/\aI.length<=i⟩
theorem Bi {P:Program}{w:World}{K:PySem.W.Frag}{es:List Expr}{kt:Nat}{pt:Pos}(a it:Addr)(aI:List (cA×V))(ob:Obj){ds:Array DictEntry}{ep:Nat}(hd:ob.data=.dict ds ep):Turn P w K (.Tuple es kt pt) (TW a aI ob) [it] it (λi h=>∃ok ov,IsItemIter h it a i aI.length ep ok ov) where
 mem:=by simp
 obj:=λi h st b hb=>by
  have e:b=it:=by simpa using hb
  subst e;obtain⟨ok,ov,e⟩:=st;exact⟨_,e,λv z=>by cases z⟩
 keep:=λi h h' st k=>let ⟨ok,ov,e⟩:=st;⟨ok,ov,k it (by simp) _ e⟩
 item:=by
  intro X hP hw hK hc i ae s σ H E I hf st hg;subst hP hw hK;obtain⟨ok,ov,he⟩:=st;obtain⟨hH,fN⟩:=hg;obtain⟨vs,r,m⟩:=lF I.hok hH hd;have hl:vs.length=aI.length:=(Paired.length r).symm;obtain⟨u,hu,ru⟩:=r.get (k:=aI[i].1) (x:=aI[i].2) (vU fN);have fresh:H s.heap.objs.size=none:=I.hok.fresh (vT _);have SN:it≠s.heap.objs.size:=vS (vX he);refine wpAny_pyNext_items_item (by rw[hl];exact he) m hu λkey h' zX ho hT hsz hk=>?_;rw[hl]at ho;refine⟨_,rfl,wpAny_letOwnedTupleGo_items (s:={ s with heap:=h' }) ho λh2 Pr s2=>?_⟩;have Ps:Heap.SameBut it h' h2:=s2;have kk:∀b o,b∉[it]->s.heap.get? b=some o->h2.get? b=some o:=λb o hb q=>Ps.extBut _ _ (λz=>hb (by simp[z])) (hk b o (λz=>hb (by simp[z])) q);have new:bR X.prog X.w (upd H s.heap.objs.size (.tup [kV aI[i].1,aI[i].2])) h2 s.heap.objs.size (.tup [kV aI[i].1,aI[i].2]):=⟨by show 2<=sizeLine;decide,[key,u],.cons (LM zX) (.cons ru .nil),⟨_,Ps.extBut _ _ SN.symm hT,rfl,_,rfl⟩⟩;refine⟨.ref s.heap.objs.size,upd H s.heap.objs.size (.tup [kV aI[i].1,aI[i].2]),LH (s:=s) (t':=s.toks) I hf kk (vT _) new,rfl,⟨_,aI[i].1,aI[i].2,rfl,fresh,rfl,vU fN⟩,⟨_,_,Pr⟩,λb hb=>?_⟩;have p0:b≠s.heap.objs.size:=by
   have e:b=it:=by simpa using hb
   rw[e];exact SN
  rw[aK p0];exact(hf b hb).1
 done:=by
  intro X hP hw hK hc i ae s σ H E I hf st hg;subst hP hw hK;obtain⟨ok,ov,he⟩:=st;obtain⟨hH,Ix⟩:=hg;obtain⟨vs,r,m⟩:=lF I.hok hH hd;have hl:vs.length=aI.length:=(Paired.length r).symm;exact wpAny_pyNext_items_end (I.ok.hd hc) (by rw[hl];exact he) m (List.getElem?_eq_none (by omega)) λh' hk=>⟨rfl,pH (t':=s.toks) I hf λb o hb q=>hk b o (λz=>hb (by simp[z])) q⟩
 self:=λ_ _ _ _ _ st h=>let ⟨_,_,he⟩:=st;wW he h
section
variable {X:Cx}{es:List Expr}{kt:Nat}{pt:Pos}{e:Expr}
def TX (td:TE):TI:=λσ H R=>td σ H λx H1=>∃a aI ob,x=.ref a/\H1 a=some (.dK aI ob)/\R (TW a aI ob) H1
theorem GN {o:Expr}{td:TE}{dM cM:Pos}(ho:PE X o td)(iM:attributeBase o "items" X.env (eval o X.env)=eval o X.env:=by rfl)(iN:(dM.endLine == cM.line)=true:=by rfl):PI X (.Tuple es kt pt) (.Call (.Attribute o "items" dM) [] [] cM) (TX td):=by
 intro ae s σ H R I h;refine wpAny_Call_method0_late iM iN (cY (ho ae s σ H _ I h) λv s1 ⟨x,H1,I1,r1,a,aI,ob,ex,hH,q⟩=>?_);subst ex;obtain⟨h1,h2⟩:=A4 I1 r1 (T:="dict") (.inr (.inr (.inl ⟨rfl,.inl ⟨aI,ob,hH⟩⟩)));cases r1
 obtain⟨es,ep,hd⟩:=pM I1.hok hH;obtain⟨vs,r,m⟩:=lF I1.hok hH hd;have hl:vs.length=aI.length:=(Paired.length r).symm;refine⟨"dict","dict.items",PySem.F.plainAttrs_dict,PySem.F.slot_dict_items,PySem.F.type_dict_items,h1,h2,Calls.callWith_builtin rfl (PySem.evalArgs_none ?_)⟩;refine call_meetsIn PySem.F.slot_dict_items h1 PySem.F.entry_dict_items (PySem.F.args_dict_items_1 _) (meets_dict_items (cw X.prog X.w) a (oF I1.hok hH).2.1) ⟨⟨vs,m.dictOf⟩,?_⟩;have I2:Inv X ae σ H1 { s1 with heap:=s1.heap.push { cls:=.type "dict_items",data:=.fields #[.ref a] } }:=I1.kept (t':=s1.toks) λb o e=>vZ _ e;refine wpAny_pyIter_items (v:=s1.heap.objs.size) ⟨_,vY _ rfl,rfl,rfl⟩ (m.keep λb o e=>vZ _ e) ?_;rw[hl];refine⟨(s1.heap.push { cls:=.type "dict_items",data:=.fields #[.ref a] }).objs.size,[(s1.heap.push { cls:=.type "dict_items",data:=.fields #[.ref a] }).objs.size],_,_,H1,rfl,I2.kept (t':=s1.toks) λb o e=>vZ _ e,Bi a _ aI ob hd,⟨_,_,vY _ rfl⟩,λb hb=>?_,q⟩;have e:b=(s1.heap.push { cls:=.type "dict_items",data:=.fields #[.ref a] }).objs.size:=by simpa using hb
 subst e;exact I2.fpOk (vT _) (I2.hok.fresh (vT _))
noncomputable def jg (ks:List cA)(ds:List D):List D:=(ks.zip ds).map λx=>.tup [kD x.1,x.2]
theorem GO {K:PySem.W.Frag}{B:Hp}{a:Addr}{ks:List cA}{vs:List V}{ds:List D}{ob:Obj}(h:B a=some (.dK (ks.zip vs) ob))(hl:ks.length=vs.length)(hs:IsL K B vs ds):p9 K (TW a (ks.zip vs) ob) B (jg ks ds):=by
 intro i H s;have hz:(ks.zip vs).length=vs.length:=by rw[List.length_zip];omega
 have hn:=hs.length;refine⟨λd ed=>?_,λbK=>⟨s _ _ h,by unfold jg at bK;rw[vI,List.length_zip]at bK;omega⟩⟩;unfold jg at ed;rw[vA]at ed;obtain⟨⟨k0,d0⟩,ek,rfl⟩:=oY ed;obtain⟨e1,e2⟩:=List.getElem?_zip_eq_some.mp ek;obtain⟨v,ev,iv⟩:=hs.get e2;have fN:i<vs.length:=(vV ev).1;refine⟨⟨s _ _ h,by rw[hz];exact fN⟩,λy H3 hy=>?_⟩;obtain⟨T,k,v',rfl,hT,rfl,e⟩:=hy;obtain⟨g1,g2⟩:=List.getElem?_zip_eq_some.mp e;rw[e1]at g1;cases g1;rw[ev]at g2;cases g2;have xt:=Ext.laid (o:=.tup [kV k0,v']) s hT;exact⟨_,xt,.tup (jo.of aG) (.cons (LN _) (.cons (iv.mono xt.bn) .nil))⟩
@[simp] def pO (f:FE):FA:=λρ=>(f ρ).bind λx=>match x.1 with|.dk ks ds=>some (jg ks ds)|_=>none
theorem za (h:JE X e f)(iM:attributeBase e "items" X.env (eval e X.env)=eval e X.env:=by rfl)(iN:(dM.endLine == cM.line)=true:=by rfl):JI X (.Tuple es kt pt) (.Call (.Attribute e "items" dM) [] [] cM) (pO f):=by
 intro ae s σ H R I q;obtain⟨B,ρ,ds,sB,r,e',q⟩:=q;obtain⟨⟨xd,xb⟩,ex,es⟩:=oX e';cases xd<;>try (cases es;done)
 cases es
 refine GN h iM iN ae s σ H R I ⟨B,ρ,_,_,sB,r,ex,λv H1 N1 x1 i1 _=>?_⟩;cases i1 with
 |@dk a ks vs ds ob hd hl hs=>exact⟨a,_,ob,rfl,x1.nh _ _ hd,q _ H1 N1 x1 (GO hd hl hs)⟩
end
section
variable {K:PySem.W.Frag}{E:Ends}{σ:St}{H:Hp}
def qQ (i:Nat)(fk fv:FE):FS:=λρ=>match ρ[i]? with
 |some (some (.dk ks vs,true))=>(fv (m6 ρ)).bind λv=>(fk ρ).bind λk=>(kh k.1).bind λkk=>if ks.length<sizeLine then some (.nx (ρ.set i (some (.dk (dO ks kk) (dP ks vs kk v.1),true))))else none
 |_=>none
theorem Ee (q:nU K (qQ i fk fv) E σ H):BI (EY i) (tD K fk) (tD K fv) E σ H:=by
 obtain⟨B0,H0,ρ,r,⟨N,s⟩,e,p⟩:=q;unfold qQ at e;split at e
 ·rename_i ks ds ei;obtain⟨v,ev,e⟩:=oX e;obtain⟨k,ek,e⟩:=oX e;obtain⟨kk,hk,e⟩:=oX e;split at e
  ·rename_i hx;cases e
   refine⟨dU N (own σ ρ),m6 ρ,v.1,v.2,bU.trans s.ext.nh,s.repH,ev,λv1 H1 N1 x1 i1 _=>?_⟩;obtain⟨s1,c⟩:=s.growH x1;obtain⟨a,o,h1,h2,h3,h4⟩:=s1.ow i _ ei;refine⟨.ref a,h1,_,ρ,k.1,k.2,s1.ext.nh,s1.rep,ek,λv2 H2 N2 x2 i2 _=>?_⟩;have s2:=s1.grow x2;have hv:=qH i2 hk;subst hv;obtain⟨a',o',k1,k2,k3,k4⟩:=s2.ow i _ ei;rw[h1]at k1;cases k1
   cases k4 with
   |@dk ks vs ds hl h5 ob=>
    refine⟨a,rfl,.inl ⟨_,kk,_,s2.ext.nh _ _ k2,rfl,?_,λUz=>?_⟩⟩
    ·rw[List.length_zip];omega
    ·rw[pL hl];exact p σ _ ⟨_,s2.writeB ei h1 (.dk (mO hl _ _) (h5.put ((i1.mono c).mono (eW λa o e q=>⟨x2.bn a o e,q⟩))))⟩
  ·cases e
 ·cases e
end
section
variable {X:Cx}{pos:Pos}{e k:Expr}
theorem GP (hu:X.A.units+1<cLine)(hv:JE X e fv)(hk:JE X k fk)(hN:X.N[i]? = some y:=by rfl)(BB:EX X.env.scope y:=by first|exact Or.inl rfl|exact Or.inr (Or.inl rfl)|exact Or.inr (Or.inr rfl))(hd:(y == ("__debug__" : Str))=false:=by decide)
  (jG:(y == ("__classdict__" : Str))=false:=by decide) (hs:swapsWith e (some (.Subscript (.Name y py) k pt)) pos.line X.env=pure false:=by rfl):JS X (.Assign [.Subscript (.Name y py) k pt] e pos) (qQ i fk fv) :=
 PS.to (wu hu (lO hN BB hd jG) hk hv hs) λ_ _ _ q=>Ee q
end
section
variable {prog:Program}{w:World}{A:Around}{E:Value->Shared->Prop}{s:Shared}
theorem Cv:∀(vs:List Value)(ns:List Int),vs.length=ns.length->(∀(i:Nat)(v:Value),vs[i]? = some v->∃(m:Int)(t:Tok),ns[i]? = some m/\v=Value.int m t)->IntsAre vs ns
 |[],[],_,_=>.nil
 |v::vs,n::ns,h,k=>by
  obtain⟨m,t,e,rfl⟩:=k 0 v rfl;cases (show some n=some m from e)
  exact .cons n t (Cv vs ns (by simpa using h) λi v hv=>k (i+1) v hv)
theorem zb (hh:A.handled=none)(lo:(a == sysModules)=false)(hm:s.heap.DictAt (cw prog w) a aI ep)(hk:aI.map (·.1)=ns.map .inl)(vx:ns.length<64)
  (hQ:∀(h1 h':Heap)(tk:Nat)(b:Addr)(out:Array Value)(n:Nat)(P6:List Int),(∀c u,s.heap.get? c=some u->h1.get? c=some u)->(∀c u,h1.get? c=some u->h'.get? c=some u)->h1.objs.size<=b->h'.get? b=some (seqObj "list" out n) ->
   IntsAre out.toList P6->P6.Perm ns->P6.Pairwise (·<=·)->Q (.ref b) { s with heap:=h',toks:=tk }):
  wpAny (model prog w) A (call (.builtin "sorted") [.ref a]) Q E s:=by
 refine Calls.call_function_entry kind_sorted plain_sorted entry_sorted (args_sorted1 _) ?_;unfold Builtin.«sorted»;refine wX (m:=checkCount "sorted" 1 1 _) (wY ?_);have SQ:aI.length=ns.length:=by have:=congrArg List.length hk;simpa using this
 refine wX (kdu_collect (A:=A.in1) (kdl_dict lo) (by exact hh) hm (by rw[sizeLine_eq];omega) λh1 tk mn hkeep HX=>?_);have Aa:mn.toList.length=ns.length:=by rw[vG,HX.1,SQ]
 have jW:IntsAre mn.toList ns:=Cv mn.toList ns Aa λi v hv=>by
  obtain⟨k,x,e1,e2⟩:=HX.2 i v (by simpa using hv);have e3:(aI.map (·.1))[i]? = some k:=by rw[vA,e1];rfl
  rw[hk,vA]at e3;obtain⟨m,e4,rfl⟩:=oY e3;obtain⟨t,rfl⟩:=Value.isInt_shape (k:=m) (v:=v) e2;exact⟨m,t,e4,rfl⟩
 refine wX (wpAny_newList ?_ (by rw[Aa,sizeLine_eq];omega));have EQ:(h1.push (seqObj "list" mn.toList.toArray 0)).get? h1.objs.size=some (seqObj "list" mn.toList.toArray 0):=vY _ rfl;show wpAny _ _ _ _ _ { s with heap:=h1.push (seqObj "list" mn.toList.toArray 0),toks:=tk };refine wX (wpAny_holding (wpAny_call_entry slot_list_sort ⟨_,EQ,rfl⟩ entry_list_sort (list_sort_tree EQ jW (by rw[Aa];exact vx) λout P6 a1 a2 a3=>⟨_,rfl,?_⟩) (args_list_sort _)));obtain⟨n,he⟩:=sortedHeap_at (out:=out) EQ;refine wY ⟨_,rfl,hQ h1 _ _ _ out n P6 hkeep (λb u q=>?_) (vT _) he a1 a2 a3⟩;have hl:=vX q;rw[sortedHeap_old (vS hl) (by rw[size_push'];exact Nat.lt_succ_of_lt hl)];exact vZ _ q
end
noncomputable def uC:List cA->Option (List Int)
 |[]=>some []
 |.inl n::ks=>(uC ks).map (n :: ·)
 |.inr _::_=>none
theorem zc:∀ {ks:List cA}{ns:List Int},uC ks=some ns->ks=ns.map .inl
 |[],_,h=>by cases h;rfl
 |.inl n::ks,_,h=>by
  obtain⟨r,h1,rfl⟩:=oY h;rw[zc h1];rfl
 |.inr _::_,_,h=>by cases h
theorem Kg {aI:List (cA×V)}{vs:List (cA×Value)}(r:KV aI vs):vs.map (·.1)=aI.map (·.1):=by
 unfold KV at r;induction r with
 |nil=>rfl
 |cons h t ih=>rw[uY,uY,ih,h.1]
@[simp] def j3:List D->Option (D×Bool)
 |[.dk ks _]=>(uC ks).bind λns=>if ns.length<64 then some (.lst ((kg ns).map .int),true)else none
 |_=>none
section
variable {X:Cx}
theorem Ef (hc:X.calm=true):bT X (.builtin "sorted") (A6 X.K j3):=by
 intro ae s σ H xs us Q I r h;obtain⟨B,dl,d,bb,sB,i,ee,q⟩:=h;cases i with
 |nil=>simp[j3]at ee
 |cons i1 i2=>
  cases i2 with
  |cons _ _=>cases i1<;>simp[j3]at ee
  |nil=>
   cases i1 with
   |@dk a ks vs ds ob hd hl hs=>
    obtain⟨u,rfl,rx⟩:=gZ r;cases rx
    simp only[j3]at ee;obtain⟨ns,en,ee⟩:=oX ee;split at ee
    ·rename_i vx;cases ee
     have hH:=sB _ _ hd;obtain⟨es,ep,Zo⟩:=pM I.hok hH;obtain⟨SH,r',m⟩:=lF I.hok hH Zo;have Zp:SH.map (·.1)=ns.map .inl:=by rw[Kg r',List.map_fst_zip (by omega),zc en]
     refine zb (I.ok.hd hc) (oF I.hok hH).2.1 m Zp vx λh1 h' tk b out n P6 k1 k2 hb he jW gU sV=>?_;have e:=yS gU sV;subst e;have I1:Inv X ae σ H { s with heap:=h1,toks:=tk }:=uo I k1 rfl rfl;have hf:H b=none:=I1.hok.fresh hb;have xt:=Ext.laid (o:=.lst ((kg ns).map V.int)) sB hf;exact⟨.ref b,_,I1.laid (t':=tk) k2 hb (show bR X.prog X.w _ h' _ (.lst ((kg ns).map V.int))from ⟨by rw[vI];unfold kg;rw[(bv _ ns).length_eq,sizeLine_eq];omega,out.toList,n,ij jW,he⟩),rfl,q _ _ _ xt (.lst (iP.of aG) (mL _)) λ_=>⟨_,_,_,rfl,rfl,hf,aG,mL _⟩⟩
    ·cases ee
   |_=>simp[j3]at ee
theorem Ob (hu:X.A.units+1<cLine)(hi:JE X i fi)(ho:JE X o fo)(hm:behindInMarks .In o=false:=by first|exact jn _ (by decide) (by decide)|rfl):JE X (.Compare i [.In] [o] pos) (f2 S3 fi fo):=by
 refine PE.to (M4 (Nc hu hi ho) hm) λσ H Q q=>?_;obtain⟨B,ρ,d,bb,sB,r,ee,q⟩:=q;obtain⟨y,ey,ee⟩:=oX ee;obtain⟨x,ex,ee⟩:=oX ee;refine⟨B,ρ,y.1,y.2,sB,r,ey,λv2 H1 N1 x1 i2 _=>⟨N1,ρ,x.1,x.2,x1.nh,r.mono x1.bn,ex,λv H2 N2 x2 i1 ff=>?_⟩⟩;obtain⟨xd,xb⟩:=x;cases i1 with
 |@dk a ks vs ds ob h hl hs=>
  simp only[S3]at ee;obtain⟨k,hk,ee⟩:=oY ee;cases ee
  have hv:=qH i2 hk;subst hv;refine⟨a,kj (ks.zip vs) k,rfl,.inl ⟨_,k,_,.inl (x2.nh _ _ h),rfl,rfl⟩,?_⟩;rw[uz hl hs];exact(q.into (x1.trans x2)).one x2.nh (.bl _)
 |_=>simp[S3]at ee
end
end DL
namespace DL
open PySem PySem.Spec PyProof.Rows L2
@[simp] abbrev fV (i:Nat)(g:FA):FA:=af (ai i) g
@[simp] abbrev fI (n:Int):FE:=fC (.int n)
@[simp] abbrev fS (s:PySem.Str):FE:=fC (.str s)
section
variable {X:Cx}{es:List Expr}{g:FA}{pos:Pos}
theorem aH {x:Str}{p:Pos}(i:Nat)(hr:JA X es g)(hN:X.N[i]? = some x:=by rfl)(hv:EX X.env.scope x:=by first|exact Or.inl rfl|exact Or.inr (Or.inl rfl)|exact Or.inr (Or.inr rfl))(hd:(x == ("__debug__" : Str))=false:=by decide)(jG:(x == ("__classdict__" : Str))=false:=by decide)
  (hs:starEach (.Name x p::es) X.env=(false,eval (.Name x p) X.env)::starEach es X.env:=by rfl):JA X (.Name x p::es) (fV i g):=ah (ag i hN hv hd jG) hr hs
theorem bZ {i:Int}{j:Nat}(hr:JA X es g):JA X (.Constant (.int i) j pos::es) (af (fC (.int i)) g):=ah aw hr
theorem a8 (F:Fn X.prog X.w X.K X.mg X.base k x f)(hr:fg j X.A)(ha:JA X (e::es) g:=by repeat first|exact am|refine aH _ ?_|refine ah aB ?_)(hj:k<=j:=by decide)(hg:Gl X x:=by rfl)(sM:(x == ("__debug__" : Str))=false:=by decide)(he:starEach (e::es) X.env=(false,eval e X.env)::starEach es X.env:=by rfl)(lL:(backTo pos (starEach es X.env)).any (·.1)=false:=by rfl):JE X (.Call (.Name x p) (e::es) [] pos) (fA f g):=BL F (hr.mono hj) ha hg sM he lL
theorem bi (he:JE X e f):xG X [.Return (some e) pos] (aW f):=bj (FF he)
theorem cI {c:Expr}{fc:FT}(hc:JT X c fc)(he:JE X e f):JS X (.If c [.Return (some e) p] [] pos) (eM fc (aW f) bp):=eO hc (bj (FF he)) dI
theorem bO (i:Nat)(hN:X.N[i]? = some x:=by rfl)(hv:EX X.env.scope x:=by first|exact Or.inl rfl|exact Or.inr (Or.inl rfl)|exact Or.inr (Or.inr rfl))(hd:(x == ("__debug__" : Str))=false:=by decide)(jG:(x == ("__classdict__" : Str))=false:=by decide):JE X (.Subscript (.Name x p) (.Constant (.int n) j q) pos) (dQ i n):=aT (ag i hN hv hd jG) aw
end
end DL
namespace DL
open PySem L2
theorem i7 {tg:FG}{g:FS}(I:Nat->Env->Prop)(ds:List D)(ρ0:Env)(h0:I 0 ρ0)
  (step:∀i d ρ,ds[i]? = some d->I i ρ->∃ρ1 ρ',tg d ρ=some ρ1/\(g ρ1=some (.nx ρ')∨g ρ1=some (.ct ρ'))/\I (i+1) ρ'):
  ∃ρ',jc tg g ds ρ0=some (.nx ρ')/\I ds.length ρ':=by
 have key:∀(es:List D)(i:Nat)(ρ:Env),ds.drop i=es->i+es.length=ds.length->I i ρ->∃ρ',jc tg g es ρ=some (.nx ρ')/\I ds.length ρ':=by
  intro es;induction es with
  |nil=>intro i ρ e hl h;refine⟨ρ,by rw[F4],?_⟩;rw[←hl];exact h
  |cons d es ih=>
   intro i ρ e hl h;have hd:ds[i]? = some d:=by
    have:(ds.drop i)[0]? = some d:=by rw[e];rfl
    rwa [List.getElem?_drop,Nat.add_zero]at this
   obtain⟨ρ1,ρ',h1,h2,h3⟩:=step i d ρ hd h;have he:ds.drop (i+1)=es:=by rw[←List.drop_drop,e];rfl
   obtain⟨ρ2,k1,k2⟩:=ih (i+1) ρ' he (by simp at hl;omega) h3;refine⟨ρ2,?_,k2⟩;rw[D9,h1];rcases h2 with h2|h2<;>simp only[vJ,h2]<;>exact k1
 exact key ds 0 ρ0 (by simp) (by simp) h0
theorem j4 {tg:FG}{g:FS}(n:Nat)(I:Nat->Env->Prop)(ρ0:Env)(h0:I 0 ρ0)
  (step:∀(i:Nat) ρ,i<n->I i ρ->∃ρ1 ρ',tg (.int (i:Int)) ρ=some ρ1/\(g ρ1=some (.nx ρ')∨g ρ1=some (.ct ρ'))/\I (i+1) ρ'):
  ∃ρ',jc tg g (gn 0 n) ρ0=some (.nx ρ')/\I n ρ':=by
 have hl:(gn 0 n).length=n:=by simp[gn]
 obtain⟨ρ',h1,h2⟩:=i7 (tg:=tg) (g:=g) I (gn 0 n) ρ0 h0 λi d ρ hd h=>by
  unfold gn at hd;rw[vA]at hd;obtain⟨k,hk,hd⟩:=oY hd;obtain⟨fN,hk⟩:=vV hk;rw[List.length_range]at fN;rw[List.getElem_range]at hk;subst hk;rw[Int.zero_add]at hd;subst hd;exact step i ρ fN h
 rw[hl]at h2;exact⟨ρ',h1,h2⟩
theorem kG {α:Type}{xs:List α}{j:Nat}(h:j<xs.length):oE xs (j:Int)=some xs[j]:=IX (by simp[h])
theorem wZ {α:Type}{xs:List α}{i:Int}(h0:0<=i)(h:i.toNat<xs.length):oE xs i=some xs[i.toNat]:=by
 have:=kG h;rwa [Int.toNat_of_nonneg h0]at this
@[simp] theorem LO (xs:List Int):b9 (xs.map D.int)=true:=by
 induction xs with
 |nil=>simp
 |cons x xs ih=>simp[ih]
@[simp] theorem Iu (n:Nat)(xs:List Int):(xs.map D.int).all (aq n)=true:=by
 induction xs with
 |nil=>simp
 |cons x xs ih=>simpa using ih
@[simp] theorem Kh (xs:List Int):(xs.map D.int).all fZ=true:=by
 induction xs with
 |nil=>simp
 |cons x xs ih=>simpa using ih
theorem Eg (n:Nat):gn 0 n=((List.range n).map λ(k:Nat)=>(k:Int)).map D.int:=by
 unfold gn;rw[uP];apply List.map_congr_left;intro k _;simp
mutual
def mQ:D->D->Bool
 |.non,.non=>true
 |.bl a,.bl b=>a == b
 |.int a,.int b=>decide (a=b)
 |.str a,.str b=>decide (a=b)
 |.ty a,.ty b=>decide (a=b)
 |.tup xs,.tup ys=>qR xs ys
 |.lst xs,.lst ys=>qR xs ys
 |_,_=>false
def qR:List D->List D->Bool
 |[],[]=>true
 |x::xs,y::ys=>mQ x y && qR xs ys
 |_,_=>false
end
mutual
theorem Cw:∀ {x y:D},mQ x y=true->x=y
 |.non,.non,_=>rfl
 |.bl a,.bl b,h=>by simp[mQ]at h;rw[h]
 |.int a,.int b,h=>by simp[mQ]at h;rw[h]
 |.str a,.str b,h=>by simp[mQ]at h;rw[h]
 |.ty a,.ty b,h=>by simp[mQ]at h;rw[h]
 |.tup xs,.tup ys,h=>by rw[mQ]at h;rw[qS h]
 |.lst xs,.lst ys,h=>by rw[mQ]at h;rw[qS h]
theorem qS:∀ {xs ys:List D},qR xs ys=true->xs=ys
 |[],[],_=>rfl
 |x::xs,y::ys,h=>by
  rw[qR,vC]at h;rw[Cw h.1,qS h.2]
end
def VO (r:Option (D×Bool))(d:D)(b:Bool):Bool:=match r with
 |some (e,c)=>mQ e d && c == b
 |none=>false
theorem bq {r:Option (D×Bool)}{d:D}{b:Bool}(h:VO r d b=true):r=some (d,b):=by
 unfold VO at h;split at h
 ·rw[vC]at h;rw[Cw h.1,eq_of_beq h.2]
 ·cases h
section
variable {f:FE}{c:FT}{g g' h:FS}{ρ ρ':Env}{i:Nat}{d:D}{b:Bool}{r:Option Res}{ds:List D}
theorem av {n k:Nat}(hl:ds.length=n)(e:g (ds.map (λd=>some (d,false))++List.replicate k none)=some (.rt d b)):aN g n k ds=some (d,b):=by
 unfold aN;rw[if_pos hl,e]
theorem uE (n:bg d=true):setE ρ i d b=ρ.set i (some (d,false)):=by unfold setE;rw[if_pos n]
theorem qT (n:b9 ds=true):setE ρ i (.lst ds) true=ρ.set i (some (.lst ds,true)):=by
 unfold setE;rw[if_neg (by simp),if_pos ⟨rfl,by simpa using n⟩]
theorem Cy (n:bg d=false)(m:b=false∨ya d=false):setE ρ i d b=(unown ρ).set i (some (d,false)):=by
 unfold setE;have hz:¬(b=true/\ya d=true):=λz=>by
  rcases m with m|m
  ·rw[m]at z;exact absurd z.1 (by decide)
  ·rw[m]at z;exact absurd z.2 (by decide)
 rw[if_neg (by simp[n]),if_neg hz]
theorem Cz (e:f ρ=some (d,b))(k:h (setE ρ i d b)=r):a9 (aO i f) h ρ=r:=by simp[e];exact k
theorem Oc (e:f ρ=some (d,b))(n:bg d=true)(k:h (ρ.set i (some (d,false)))=r):a9 (aO i f) h ρ=r:=Cz e (by rw[uE n];exact k)
theorem cx (e:f ρ=some (.lst ds,true))(n:b9 ds=true)(k:h (ρ.set i (some (.lst ds,true)))=r):a9 (aO i f) h ρ=r:=Cz e (by rw[qT n];exact k)
theorem QV (e:f ρ=some (d,b))(n:bg d=false)(m:b=false∨ya d=false)(k:h ((unown ρ).set i (some (d,false)))=r):a9 (aO i f) h ρ=r:=Cz e (by rw[Cy n m];exact k)
theorem dh (e:g ρ=some (.nx ρ'))(k:h ρ'=r):a9 g h ρ=r:=by unfold a9;rw[e];exact k
theorem TY (e:g ρ=some (.rt d b)):a9 g h ρ=some (.rt d b):=by unfold a9;rw[e]
theorem TZ (e:g ρ=some (.ct ρ')):a9 g h ρ=some (.ct ρ'):=by unfold a9;rw[e]
theorem l7 (e:c ρ=some true)(k:g ρ=r):eM c g g' ρ=r:=by unfold eM;rw[e];exact k
theorem mR (e:c ρ=some false)(k:g' ρ=r):eM c g g' ρ=r:=by unfold eM;rw[e];exact k
theorem GQ {x:Bool}(e:c ρ=some x)(kt:x=true->g ρ=r)(kf:x=false->g' ρ=r):eM c g g' ρ=r:=by
 cases x with
 |true=>exact l7 e (kt rfl)
 |false=>exact mR e (kf rfl)
theorem bI (e:c ρ=some true)(k:g ρ=some (.rt d b)):a9 (eM c g g') h ρ=some (.rt d b):=TY (l7 e k)
theorem aC (e:c ρ=some false)(k:h ρ=r):a9 (eM c g bp) h ρ=r:=dh (mR e rfl) k
theorem az (e:f ρ=some (d,b)):aW f ρ=some (.rt d b):=by simp[e]
theorem mS (e:ρ[i]? = some (some (d,b)))(hb:Lq d=false:=by rfl):jr i ρ=some (.rt d b):=by simp only[jr,e,hb];simp
theorem qU (e:f ρ=some (d,b))(n:bg d=true):aO i f ρ=some (.nx (ρ.set i (some (d,false)))):=by
 show(f ρ).map _=_;rw[e,Option.map_some,uE n]
theorem pP (e:f ρ=some (.lst ds,true))(n:b9 ds=true):aO i f ρ=some (.nx (ρ.set i (some (.lst ds,true)))):=by
 show(f ρ).map _=_;rw[e,Option.map_some,qT n]
theorem gX (e:ρ[i]? = some (some (.lst ds,true)))(ef:f ρ=some (d,b))(n:bg d=true)(l:ds.length<sizeLine):js i f ρ=some (.nx (ρ.set i (some (.lst (ds++[d]),true)))):=by
 simp[e,ef,n,l]
theorem LP (e:ρ[i]? = some (some (.lst ds,true)))(ef:f ρ=some (d,b))(n:bg d=true)(l:ds.length<sizeLine)(k:h (ρ.set i (some (.lst (ds++[d]),true)))=r):a9 (js i f) h ρ=r:=dh (gX e ef n l) k
theorem j5 {fi:FA}{tg:FG}{ds:List D}(e:fi ρ=some ds)(k:jc tg g ds ρ=some (.nx ρ')):jZ fi tg g ρ=some (.nx ρ'):=by unfold jZ;rw[e];exact k
theorem ln {fi:FA}{tg:FG}{ds:List D}(e:fi (m6 ρ)=some ds)(k:jc tg g ds ρ=some (.nx ρ')):qg fi tg g ρ=some (.nx ρ'):=by unfold qg;rw[e];exact k
theorem gt {f:FE}{j:Nat}(e:f ρ=some (.int j,b))(hj:j<=1000):fu f ρ=some (gn 0 j):=by
 unfold fu;rw[e];simp only[];rw[if_pos (by omega)];simp
theorem Od {x:Bool}(e:f ρ=some (.bl x,b)):bo f ρ=some x:=by unfold bo;rw[e]
theorem C0 {F:List D->Option (D×Bool)}{fa:FA}{x:Option (D×Bool)}(e:fa ρ=some ds)(k:F ds=x):fA F fa ρ=x:=by unfold fA;rw[e,vJ];exact k
theorem zd {f1 g1:D->D->Option (D×Bool)}{fa fb fc:FE}{x y z:D}{b1 b2 b3 b4 p q:Bool}(ea:fa ρ=some (x,b1))(eb:fb ρ=some (y,b2))(ec:fc ρ=some (z,b3))(e1:f1 x y=some (.bl p,b4))(e2:p=true->g1 y z=some (.bl q,false)):nV f1 g1 fa fb fc ρ=some (.bl (p && q),false):=by
 unfold nV;rw[ea,eb,ec];simp only[vJ,e1];cases p
 ·rfl
 ·exact e2 rfl
theorem dL {f1 f2:FE}{p q b1:Bool}(e1:f1 ρ=some (.bl p,b1))(e2:p=true->f2 ρ=some (.bl q,false)):jI f1 f2 ρ=some (.bl (p && q),false):=by
 unfold jI;rw[e1];cases p
 ·rfl
 ·exact e2 rfl
theorem mT {f1 f2:FE}{p q b1:Bool}(e1:f1 ρ=some (.bl p,b1))(e2:p=false->f2 ρ=some (.bl q,false)):Ip f1 f2 ρ=some (.bl (p || q),false):=by
 unfold Ip;rw[e1];cases p
 ·exact e2 rfl
 ·rfl
theorem Ki {f1:FE}{p b1:Bool}(e1:f1 ρ=some (.bl p,b1)):AB f1 ρ=some (.bl (!p),false):=by
 unfold AB;rw[e1]
theorem aE {fr:FA}{xs:List D}(e1:f ρ=some (d,b))(e2:fr ρ=some xs):af f fr ρ=some (d::xs):=by
 unfold af;rw[e1,vJ,e2,vJ]
theorem iS {op:D->D->Option (D×Bool)}{fa fb:FE}{x y:D}{b1 b2:Bool}{z:Option (D×Bool)}(e1:fa ρ=some (x,b1))(e2:fb ρ=some (y,b2))(e3:op x y=z):f2 op fa fb ρ=z:=by
 unfold f2;rw[e1,vJ,e2,vJ];exact e3
theorem dD {c1 c2:FT}{p q:Bool}(e1:c1 ρ=some p)(e2:p=true->c2 ρ=some q):dS c1 c2 ρ=some (p && q):=by
 unfold dS;rw[e1];cases p
 ·rfl
 ·exact e2 rfl
theorem cW {c1 c2:FT}{p q:Bool}(e1:c1 ρ=some p)(e2:p=false->c2 ρ=some q):jq c1 c2 ρ=some (p || q):=by
 unfold jq;rw[e1];cases p
 ·exact e2 rfl
 ·rfl
theorem cy {c1:FT}{p:Bool}(e1:c1 ρ=some p):fJ c1 ρ=some (!p):=by
 unfold fJ;rw[e1];rfl
end
theorem S5 (a c:Nat):decide ([a]<[c])=decide (a<c):=by
 congr 1;rw[List.cons_lt_cons_iff];simp
@[simp] theorem S6 (a c:Nat):xI (.str ⟨#[a]⟩) (.str ⟨#[c]⟩)=some (.bl (decide (a<=c)),false):=by
 unfold xI;show some (D.bl (!decide ([c]<[a])),false)=_;rw[S5];congr 3;by_cases h:c<a
 ·rw[decide_eq_true h,decide_eq_false (by omega)];rfl
 ·rw[decide_eq_false h,decide_eq_true (by omega)];rfl
theorem bD {n:Nat}(h:n<=100000):n<sizeLine:=Nat.lt_of_le_of_lt h (by decide)
theorem dY {n:Nat}(h:n<=100000):n<=sizeLine:=Nat.le_of_lt (bD h)
theorem gO {α:Type}{fi:FA}{nT:Nat}{cap:List Nat}{tg:FG}{c:FT}{fe:FE}{ρ:DL.Env}(l:List α)(g:α->D)(p:α->Bool)(h:α->D)(e:fi ρ=some (l.map g))(hl:l.length<=100000)
  (k:∀x∈l,∃ρ1,tg (g x) (cH nT cap ρ)=some ρ1/\c ρ1=some (p x)/\(p x=true->∃b,fe ρ1=some (h x,b))):bL fi nT cap tg c fe ρ=some (.lst ((l.filter p).map h),true):=by
 have key:∀l':List α,(∀x∈l',x∈l)->ir tg c fe (cH nT cap ρ) (l'.map g)=some ((l'.filter p).map h):=by
  intro l';induction l' with
  |nil=>intro _;simp
  |cons x l' ih=>
   intro hm;obtain⟨ρ1,h1,h2,h3⟩:=k x (hm x mX);have ih:=ih λy hy=>hm y (mZ _ hy);rw[uY,A9,h1,vJ,h2,vJ];cases hp:p x with
   |false=>simp[hp,ih]
   |true=>
    obtain⟨b,h4⟩:=h3 hp;simp[hp,ih,h4]
 unfold bL;rw[e,vJ,if_pos (dY (by simpa using hl)),key l λ_ h=>h,Option.map_some]
theorem lG {α:Type}{fi:FA}{nT:Nat}{cap:List Nat}{tg:FG}{fe:FE}{ρ:DL.Env}(l:List α)(g:α->D)(h:α->D)(e:fi ρ=some (l.map g))(hl:l.length<=100000)
  (k:∀x∈l,∃ρ1,tg (g x) (cH nT cap ρ)=some ρ1/\∃b,fe ρ1=some (h x,b)):bL fi nT cap tg fY fe ρ=some (.lst (l.map h),true):=by
 have:=gO (c:=fY) (fe:=fe) l g (λ_=>true) h e hl λx hx=>by
  obtain⟨ρ1,h1,h2⟩:=k x hx;exact⟨ρ1,h1,rfl,λ_=>h2⟩
 rw[List.filter_eq_self.mpr λ_ _=>rfl]at this;exact this
@[simp] theorem qV {α:Type}(f:α->Bool)(l:List α):qm (l.map λx=>.bl (f x))=some (l.map f):=by
 induction l with
 |nil=>rfl
 |cons x l ih=>simp[ih]
theorem A1 {z:Str}{i:Int}(h0:0<=i)(h:i.toNat<z.cps.size)(hz:z.length<=100000):bP (.str z) (.int i)=some (.str ⟨#[z.cps.toList.getD i.toNat 0]⟩,false):=by
 have hh:i.toNat<z.cps.toList.length:=by simpa using h
 simp only[bP];rw[if_pos (dY hz),wZ h0 hh];simp[List.getD,h]
theorem Bj {ds:List D}{i:Int}(h0:0<=i)(h:i.toNat<ds.length):bP (.lst ds) (.int i)=some (ds.getD i.toNat .non,false):=by
 simp only[bP];rw[wZ h0 h];simp[List.getD,h]
theorem A0 {ds:List D}{i:Int}(h0:0<=i)(h:i.toNat<ds.length):bP (.tup ds) (.int i)=some (ds.getD i.toNat .non,false):=by
 simp only[bP];rw[wZ h0 h];simp[List.getD,h]
theorem C1 {xs:List Int}{i:Int}(h0:0<=i)(h:i.toNat<xs.length):bP (.lst (xs.map .int)) (.int i)=some (.int (xs.getD i.toNat 0),false):=by
 rw[Bj h0 (by simpa using h)];simp[List.getD,h]
theorem mod_lt {x m:Int}(hm:0<m):0<=x % m/\x % m<m:=⟨Int.emod_nonneg _ (by omega),Int.emod_lt_of_pos _ hm⟩
theorem Kj {ds:List D}:gW [.lst ds]=some (.int ds.length,false):=rfl
theorem C2 {i j:Int}:dJ (.int i) (.int j)=some (.bl (decide (i=j)),false):=by simp
theorem bB {ρ:Env}{op:D->D->Option (D×Bool)}{fa fb:FE}(x y:D){z:Option (D×Bool)}(e1:fa ρ=some (x,false))(e2:fb ρ=some (y,false))(e3:op x y=z):f2 op fa fb ρ=z:=iS e1 e2 e3
theorem cS {ρ:Env}{f:FE}{x:Bool}(e:f ρ=some (.bl x,false)):bo f ρ=some x:=Od e
theorem cq {ρ:Env}{f:FE}{d:D}{fr:FA}{xs:List D}(e1:f ρ=some (d,false))(e2:fr ρ=some xs):af f fr ρ=some (d::xs):=aE e1 e2
theorem aJ {ρ:Env}{F:List D->Option (D×Bool)}{fa:FA}{x:Option (D×Bool)}(ds:List D)(e:fa ρ=some ds)(k:F ds=x):fA F fa ρ=x:=C0 e k
theorem gd {ρ:Env}{f:FE}{h:FS}{i:Nat}{r:Option Res}(d:D)(e:f ρ=some (d,false))(n:bg d=true)(k:h (ρ.set i (some (d,false)))=r):a9 (aO i f) h ρ=r:=Oc e n k
@[simp] noncomputable abbrev rkE (ab:List D)(aa:Int)(t:Env):Env:=some (.tup ab,false)::some (.int aa,false)::t
@[simp] noncomputable abbrev eR (ns:List Int)(zs:List Str)(ms:Int)(du:List Str)(R:List D)(a b:Option (D×Bool))(t:Env):Env:=some (.lst (ns.map .int),false)::some (.lst (zs.map .str),false)::some (.int ms,false)::a::some (.lst (du.map .str),true)::some (.lst R,true)::b::t
end DL
namespace Lw
open PySem DL
noncomputable def ze:D:=(.tup [(.str "paper"),(.str "like"),(.str "copy")])
noncomputable def hW:List (PySem.Str×D):=[(("root" : Str),(.tup [(.str "office"),(.str "matters"),(.str "further"),(.str "rule")])),(("named" : Str),(.tup [(.str "day"),(.str "office"),(.str "person")])),(("chosen" : Str),(.tup [(.str "day"),(.str "by"),(.str "office"),(.str "person"),(.str "since")])),(("heir" : Str),(.tup [(.str "day"),(.str "by"),(.str "office"),(.str "person")])),(("death" : Str),(.tup [(.str "day"),(.str "person")])),(("lost" : Str),(.tup [(.str "day"),(.str "person")])),(("found" : Str),(.tup [(.str "day"),(.str "person")])),(("leave" : Str),(.tup [(.str "day"),(.str "by"),(.str "person"),(.str "matters"),(.str "stretch"),(.str "further")])),(("paper" : Str),(.tup [(.str "day"),(.str "by"),(.str "matters"),(.str "stretch"),(.str "whom"),(.str "pieces")])),(("like" : Str),(.tup [(.str "day"),(.str "by"),(.str "matters"),(.str "stretch"),(.str "whom"),(.str "of"),(.str "changes")])),(("copy" : Str),(.tup [(.str "day"),(.str "by"),(.str "of")])),(("call" : Str),(.tup [(.str "day"),(.str "by"),(.str "of")]))]
noncomputable def iA:D:=(.tup [(.str "chosen"),(.str "heir"),(.str "leave"),(.str "paper"),(.str "like"),(.str "copy"),(.str "call")])
def uF:FS :=
  (aW (f2 bP (dQ 0 1) (fI 0)))
def aM:=aN uF 1 0
def uG:FS :=
  (aW (f2 bP (dQ 0 1) (f2 bY (fI 1) (f2 (pC hW) (fA aM (fV 0 aj)) (ai 1)))))
def au:=aN uG 2 0
def zf:FS :=
  (a9 (eM (bo (f2 dJ (fA aM (fV 0 aj)) (fS ("root" : Str)))) (aW (fC .non)) bp)
  (aW (fA au (fV 0 (af (fS ("day" : Str)) aj)))))
def aP:=aN zf 1 0
def C3:FS :=
  (aW (bL (Gi (ai 0)) 2 [1] (EN [0,1]) (bo (f2 xI (dQ 1 0) (ai 2))) (ai 0)))
def cL:=aN C3 2 0
def GR:FS :=
  (aW (fA aS (af (fA aP (af (f2 bP (ai 0) (ai 1)) aj)) (fV 1 aj))))
def fE:=aN GR 2 0
def qW:FS :=
  (a9 (aO 2 (bL (cj (fA cL (fV 0 (fV 1 aj)))) 1 [0] (dq 0) (bo (f2 lQ (fA aP (af (f2 bP (ai 1) (ai 0)) aj)) (fC .non))) (ai 0)))
  (aW (qD (ai 2) (qC [0] (fA fE (fV 1 (fV 0 aj)))))))
def dZ:=aN qW 2 1
def oP:FS :=
  (aW (fA aS (af (dQ 0 0) (af (dQ 0 2) (af (dQ 0 4) aj)))))
def gP:=aN oP 1 0
def C4:FS :=
  (a9 (aO 2 (bL (cj (fA cL (fV 0 (fV 1 aj)))) 1 [0] (dq 0) fY (f2 bP (ai 1) (ai 0))))
  (aW (fA hV (af (bL (cj (ai 2)) 1 [] (dq 0) (bo (f2 dJ (fA aM (fV 0 aj)) (fS ("root" : Str)))) (fA aS (af (fA au (fV 0 (af (fS ("office" : Str)) aj))) (fV 0 aj)))) aj))))
def gF:=aN C4 2 1
def qX:FS :=
  (aW (jI (nV xI Q9 (fI 0) (ai 2) (fA gW (fV 0 aj))) (f2 xI (f2 bP (f2 bP (ai 0) (ai 2)) (fI 0)) (ai 1))))
def cJ:=aN qX 3 0
def C5:FS :=
  (aW (jI (f2 oH (fA aM (fV 0 aj)) (ai 1)) (jI (f2 dJ (fA au (fV 0 (af (fS ("person" : Str)) aj))) (ai 2)) (f2 xI (fA aP (fV 0 aj)) (ai 3)))))
def pQ:=aN C5 4 0
def uH:FS :=
  (aW (bL (cj (fA cL (fV 0 (fV 1 aj)))) 1 [2,3,4,0] (dq 0) (bo (fA pQ (af (f2 bP (ai 4) (ai 0)) (fV 1 (fV 2 (fV 3 aj)))))) (ai 0)))
def iq:=aN uH 5 0
def C6:FS :=
  (aW (f2 dJ (fA gW (af (fA iq (fV 0 (fV 1 (af (fA aS (af (fS ("death" : Str)) aj)) (fV 2 (fV 3 aj)))))) aj)) (fI 0)))
def mU:=aN C6 4 0
def qY:FS :=
  (a9 (aO 4 (fA iq (fV 0 (fV 1 (af (fA aS (af (fS ("lost" : Str)) (af (fS ("found" : Str)) aj))) (fV 2 (fV 3 aj)))))))
  (a9 (eM (bo (f2 dJ (fA gW (fV 4 aj)) (fI 0))) (aW (fC (.bl true))) bp)
  (aW (f2 dJ (fA aM (af (f2 bP (ai 0) (ux (ai 4) (qC [0] (fA fE (fV 1 (fV 0 aj)))))) aj)) (fS ("found" : Str))))))
def lX:=aN qY 4 1
def qZ:FS :=
  (a9 (eM (jq (fJ (bo (fA cJ (fV 0 (fV 1 (fV 2 aj)))))) (bo (f2 eS (fA aM (af (f2 bP (ai 0) (ai 2)) aj)) (fC iA)))) (aW (fC (.bl false))) bp)
  (a9 (aO 3 (fA au (af (f2 bP (ai 0) (ai 2)) (af (fS ("by" : Str)) aj))))
  (a9 (aO 4 (fA aP (af (f2 bP (ai 0) (ai 2)) aj)))
  (aW (jI (fA mU (fV 0 (fV 1 (fV 3 (fV 4 aj))))) (fA lX (fV 0 (fV 1 (fV 3 (fV 4 aj))))))))))
def eu:=aN qZ 3 2
def uI:FS :=
  (aW (jI (f2 xI (dQ 1 0) (ai 0)) (Ip (f2 EM (dQ 1 1) (fC .non)) (f2 Q9 (ai 0) (dQ 1 1)))))
def j6:=aN uI 2 0
def re:FS :=
  (aW (fA j6 (fV 1 (af (fA aS (af (dQ 0 2) (af (dQ 0 3) aj))) aj))))
def cX:=aN re 2 0
def rf:FS :=
  (aW (fA aS (af (dQ 0 2) (af (dQ 0 4) aj))))
def dE:=aN rf 1 0
def rg:FS :=
  (a9 (eM (bo (f2 dJ (ai 1) (fS ("last" : Str)))) (aW (f2 bP (ux (ai 0) (t8 dE)) (fI 1))) bp)
  (aW (f2 bP (uy (ai 0) (t8 dE)) (fI 1))))
def lY:=aN rg 2 0
def oQ:FS :=
  (a9 (aO 3 (bL (cj (ai 0)) 1 [2,1] (dq 0) (dS (bo (f2 dJ (dQ 0 0) (fA au (fV 2 (af (fS ("office" : Str)) aj))))) (bo (fA cX (fV 0 (fV 1 aj))))) (ai 0)))
  (a9 (aO 4 (f1 gK (bL (cj (ai 3)) 1 [] (dq 0) fY (dQ 0 1))))
  (a9 (eM (bo (f2 dJ (fA gW (fV 4 aj)) (fI 0))) (aW (fA aS (af (fS ("none" : Str)) aj))) bp)
  (a9 (eM (dS (bo (f2 Iq (fA gW (fV 4 aj)) (fI 1))) (bo (f2 dJ (fA au (fV 1 (af (fS ("rule" : Str)) aj))) (fS ("open" : Str))))) (aW (fA aS (af (fS ("parted" : Str)) (fV 4 aj)))) bp)
  (a9 (aO 5 (fA lY (fV 3 (af (fA au (fV 1 (af (fS ("rule" : Str)) aj))) aj))))
  (a9 (aO 6 (uy (bL (cj (ai 3)) 1 [5] (dq 0) (bo (f2 dJ (dQ 0 1) (ai 1))) (ai 0)) (t8 dE)))
  (aW (fA aS (af (fS ("one" : Str)) (fV 5 (af (dQ 6 4) aj)))))))))))
def eA:=aN oQ 3 4
def mV:FS :=
  (aW (f2 dJ (Sy (fA eA (fV 0 (fV 1 (fV 3 aj)))) FH (BQ (fI 2))) (fA aS (af (fS ("one" : Str)) (fV 2 aj)))))
def cQ:=aN mV 4 0
def j7:FS :=
  (a9 (aO 3 (f2 bP (ai 0) (ai 2)))
  (a9 (aO 4 (fA iq (fV 0 (fV 1 (af (fA aS (af (fS ("death" : Str)) aj)) (af (fA au (fV 3 (af (fS ("person" : Str)) aj))) (af (fA aP (fV 3 aj)) aj)))))))
  (aW (f2 dJ (uy (ai 4) (qC [0] (fA fE (fV 1 (fV 0 aj))))) (ai 2)))))
def gu:=aN j7 3 2
def zg:FS :=
  (a9 (aO 4 (f2 bP (ai 0) (ai 3)))
  (a9 (eM (bo (f2 dJ (fA aM (fV 4 aj)) (fS ("death" : Str)))) (aW (fA gu (fV 0 (fV 1 (fV 3 aj))))) bp)
  (a9 (eM (bo (f2 eS (fA aM (fV 4 aj)) (fA aS (af (fS ("named" : Str)) (af (fS ("chosen" : Str)) (af (fS ("heir" : Str)) aj)))))) (aW (fC (.bl false))) bp)
  (a9 (aO 5 (f2 G5 (fA gF (fV 0 (fV 1 aj))) (fA au (fV 4 (af (fS ("office" : Str)) aj)))))
  (a9 (eM (bo (f2 EM (ai 5) (fC .non))) (aW (fC (.bl false))) bp)
  (a9 (eM (bo (f2 dJ (fA aM (fV 4 aj)) (fS ("named" : Str)))) (aW (fC (.bl true))) bp)
  (aW (jI (fA eu (fV 0 (fV 1 (fV 3 aj)))) (fA cQ (fV 2 (fV 5 (af (fA au (fV 4 (af (fS ("by" : Str)) aj))) (af (fA aP (fV 4 aj)) aj)))))))))))))
def mW:=aN zg 4 2
def oR:FS :=
  (aW (fA aS (af (fA au (fV 0 (af (fS ("office" : Str)) aj))) (af (fA au (fV 0 (af (fS ("person" : Str)) aj))) (fV 1 (af (fC .non) (fV 2 aj)))))))
def gQ:=aN oR 3 0
def rh:FS :=
  (eM (jq (bo (f2 eS (dQ 5 0) (ai 1))) (jq (bo (f2 tp (dQ 5 1) (ai 2))) (fJ (jq (bo (fA cX (fV 5 (fV 3 aj)))) (bo (f2 Iq (dQ 5 2) (ai 3))))))) (js 4 (ai 5)) (eM (bo (f2 Q9 (dQ 5 2) (ai 3))) (js 4 (fA aS (af (dQ 5 0) (fV 2 (af (dQ 5 2) (fV 3 (af (dQ 5 4) aj))))))) bp))
def C7:FS :=
  (a9 (aO 4 (fA bJ aj))
  (a9 (qg (cj (ai 0)) (dq 5) rh)
  (jr 4)))
def pR:=aN C7 4 2
def kH:FS :=
  (a9 (aO 3 (fA au (fV 1 (af (fS ("since" : Str)) aj))))
  (a9 (aO 4 (fA pR (fV 0 (af (fA bJ (af (fA au (fV 1 (af (fS ("office" : Str)) aj))) aj)) (af (fA au (fV 1 (af (fS ("by" : Str)) aj))) (fV 3 aj))))))
  (aW (f2 bY (ai 4) (fA bJ (af (fA gQ (fV 1 (fV 3 (fV 2 aj)))) aj))))))
def iB:=aN kH 3 2
def ia:FS :=
  (a9 (aO 9 (GG (ai 3) (fV 8 (fV 5 aj))))
  (eM (dS (bo (f2 lQ (ai 9) (fC .non))) (bo (fA mU (fV 0 (fV 1 (fV 9 (fV 6 aj))))))) (js 7 (fA aS (fV 8 (fV 9 (fV 6 (af (fC .non) (fV 4 aj))))))) bp))
def oS:FS :=
  (a9 (aO 5 (fA au (af (f2 bP (ai 0) (ai 4)) (af (fS ("person" : Str)) aj))))
  (a9 (aO 6 (fA aP (af (f2 bP (ai 0) (ai 4)) aj)))
  (a9 (aO 7 (fA bJ aj))
  (a9 (TJ [5,6] (qg (cj (f1 gK (bL (cj (ai 2)) 1 [5,6] (dq 0) (dS (bo (f2 dJ (dQ 0 1) (ai 1))) (bo (fA cX (fV 0 (fV 2 aj))))) (dQ 0 0)))) (dq 8) ia))
  (jr 7)))))
def kI:=aN oS 5 5
def lH:FS :=
  (a9 (aO 5 (bL (cj (ai 2)) 1 [] (dq 0) fY (dQ 0 0)))
  (a9 (aO 6 (fA pR (fV 2 (fV 5 (af (fA au (af (f2 bP (ai 0) (ai 4)) (af (fS ("person" : Str)) aj))) (af (fA aP (af (f2 bP (ai 0) (ai 4)) aj)) aj))))))
  (aW (f2 bY (ai 6) (fA kI (fV 0 (fV 1 (fV 2 (fV 3 (fV 4 aj))))))))))
def jh:=aN lH 5 2
def lq:FS :=
  (a9 (aO 5 (f2 bP (ai 0) (ai 4)))
  (a9 (eM (fJ (bo (fA mW (fV 0 (fV 1 (fV 2 (fV 4 aj))))))) LJ bp)
  (eM (bo (f2 dJ (fA aM (fV 5 aj)) (fS ("named" : Str)))) (aO 2 (f2 bY (ai 2) (fA bJ (af (fA gQ (fV 5 (af (fA aP (fV 5 aj)) (fV 4 aj)))) aj)))) (eM (bo (f2 dJ (fA aM (fV 5 aj)) (fS ("chosen" : Str)))) (aO 2 (fA iB (fV 2 (fV 5 (fV 4 aj))))) (eM (bo (f2 dJ (fA aM (fV 5 aj)) (fS ("heir" : Str)))) (u5 3 (af (fA au (fV 5 (af (fS ("office" : Str)) aj))) (af (fA au (fV 5 (af (fS ("by" : Str)) aj))) aj)) (fA au (fV 5 (af (fS ("person" : Str)) aj)))) (aO 2 (fA jh (fV 0 (fV 1 (fV 2 (fV 3 (fV 4 aj))))))))))))
def zh:FS :=
  (a9 (aO 2 (fA bJ aj))
  (a9 (G7 3)
  (a9 (qg (cj (fA dZ (fV 0 (fV 1 aj)))) (dq 4) lq)
  (aW (qD (ai 2) (t8 gP))))))
def kJ:=aN zh 2 4
def rj:FS :=
  (aW (jI (fA cJ (fV 0 (fV 1 (fV 2 aj)))) (f2 oH (fA aM (af (f2 bP (ai 0) (ai 2)) aj)) (fC ze))))
def fF:=aN rj 3 0
def rm:FS :=
  (aW (jI (fA cJ (fV 0 (fV 1 (fV 2 aj)))) (f2 dJ (fA aM (af (f2 bP (ai 0) (ai 2)) aj)) (fS ("leave" : Str)))))
def gw:=aN rm 3 0
def rq:FS :=
  (aW (Ip (fA gw (fV 0 (fV 1 (fV 2 aj)))) (fA fF (fV 0 (fV 1 (fV 2 aj))))))
def eB:=aN rq 3 0
def rz:FS :=
  (aW (f2 dJ (f2 Q1 (ai 0) (ai 1)) (ai 1)))
def iC:=aN rz 2 0
def oU:FS :=
  (a9 (eM (fJ (bo (fA iC (af (fA au (fV 1 (af (fS ("matters" : Str)) aj))) (af (fA au (fV 0 (af (fS ("matters" : Str)) aj))) aj))))) (aW (fS ("matters" : Str))) bp)
  (a9 (eM (dS (bo (f2 dJ (fA aM (fV 0 aj)) (fS ("leave" : Str)))) (bo (f2 T6 (fA au (fV 0 (af (fS ("further" : Str)) aj))) (fA au (fV 1 (af (fS ("further" : Str)) aj)))))) (aW (fS ("further" : Str))) bp)
  (aW (fC .non))))
def iW:=aN oU 2 0
def ng:FS :=
  (a9 (eM (fJ (bo (fA cQ (fV 0 (fV 2 (af (fA au (fV 1 (af (fS ("by" : Str)) aj))) (af (fA aP (fV 1 aj)) aj))))))) (aW (fS ("holder" : Str))) bp)
  (aW (fA iW (fV 1 (fV 2 aj)))))
def ib:=aN ng 3 0
def kK:FS :=
  (a9 (aO 4 (f2 bP (ai 0) (ai 3)))
  (a9 (aO 5 (bL (qO (fA gF (fV 0 (fV 1 aj)))) 1 [2,4] (dq 0) (bo (f2 EM (fA ib (fV 1 (fV 2 (fV 0 aj)))) (fC .non))) (ai 0)))
  (aW (bL (cj (ai 5)) 1 [2,4] (dq 0) fY (fA aS (af (fS ("office" : Str)) (af (fA au (fV 0 (af (fS ("office" : Str)) aj))) (af (f2 bP (fA eA (fV 1 (fV 0 (af (fA aP (fV 2 aj)) aj)))) (fI 2)) aj))))))))
def iD:=aN kK 4 2
def lI:FS :=
  (a9 (eM (bo (f2 EM (ai 1) (fC .non))) (aW (fC (.bl true))) bp)
  (aW (jI (f2 lQ (ai 0) (fC .non)) (f2 xI (ai 0) (ai 1)))))
def ji:=aN lI 2 0
def oV:FS :=
  (aW (jI (f2 xI (dQ 1 0) (dQ 0 0)) (fA ji (af (dQ 0 1) (af (dQ 1 1) aj)))))
def iX:=aN oV 2 0
def r0:FS :=
  (aW (f2 M3 (fA fE (fV 0 (fV 1 aj))) (fA fE (fV 0 (fV 2 aj)))))
def gz:=aN r0 3 0
def oW:FS :=
  (a9 (aO 3 (f2 bP (ai 0) (ai 1)))
  (a9 (aO 4 (fA au (af (f2 bP (ai 0) (ai 2)) (af (fS ("stretch" : Str)) aj))))
  (a9 (eM (fJ (bo (fA gz (fV 0 (fV 2 (fV 1 aj)))))) (aW (fS ("order" : Str))) bp)
  (a9 (eM (jq (fJ (bo (fA j6 (af (fA aP (fV 3 aj)) (fV 4 aj))))) (fJ (bo (fA iX (af (fA au (fV 3 (af (fS ("stretch" : Str)) aj))) (fV 4 aj)))))) (aW (fS ("days" : Str))) bp)
  (aW (fA iW (fV 3 (af (f2 bP (ai 0) (ai 2)) aj))))))))
def iY:=aN oW 3 2
def oZ:FS :=
  (a9 (aO 3 (bL (cj (fA cL (fV 0 (fV 1 aj)))) 1 [0,1] (dq 0) (bo (fA gw (fV 1 (fV 2 (fV 0 aj))))) (ai 0)))
  (aW (bL (cj (ai 3)) 1 [2,0] (dq 0) (bo (f2 dJ (fA au (af (f2 bP (ai 2) (ai 0)) (af (fS ("person" : Str)) aj))) (ai 1))) (ai 0))))
def kL:=aN oZ 3 1
def lJ:FS :=
  (a9 (aO 3 (fA kL (fV 0 (fV 1 (af (fA au (af (f2 bP (ai 0) (ai 2)) (af (fS ("by" : Str)) aj))) aj)))))
  (aW (bL (cj (ai 3)) 1 [0,2] (dq 0) (bo (f2 EM (fA iY (fV 1 (fV 2 (fV 0 aj)))) (fC .non))) (fA aS (af (fS ("leave" : Str)) (fV 0 aj))))))
def jj:=aN lJ 3 1
def ni:FS :=
  (a9 (aO 3 (fA au (af (f2 bP (ai 0) (ai 2)) (af (fS ("of" : Str)) aj))))
  (a9 (eM (dS (bo (fA fF (fV 0 (fV 1 (fV 3 aj))))) (bo (fA gz (fV 0 (fV 3 (fV 2 aj)))))) (aW (fA bJ (af (fA aS (af (fS ("copy" : Str)) (fV 3 aj))) aj))) bp)
  (aW (fA bJ aj))))
def jP:=aN ni 3 1
def r6:FS :=
  (a9 (eM (fJ (bo (fA eB (fV 0 (fV 1 (fV 3 aj)))))) (aW (fA bJ aj)) bp)
  (a9 (eM (bo (f2 dJ (fA aM (af (f2 bP (ai 0) (ai 3)) aj)) (fS ("copy" : Str)))) (aW (fA jP (fV 0 (fV 1 (fV 3 aj))))) bp)
  (a9 (aO 4 (f2 bY (fA iD (fV 0 (fV 1 (fV 2 (fV 3 aj))))) (fA jj (fV 0 (fV 1 (fV 3 aj))))))
  (aW (Bh (ai 4) (qC [] (fA aS (af (f2 bP (ai 0) (f1 qi (fI 1))) (fV 0 aj)))))))))
def eC:=aN r6 4 1
def r9:FS :=
  (a9 (aO 5 (f2 bP (ai 0) (ai 4)))
  (a9 (aO 6 (fA au (af (f2 bP (ai 0) (ai 3)) (af (fS ("by" : Str)) aj))))
  (a9 (eM (bo (f2 dJ (ai 6) (fA au (fV 5 (af (fS ("by" : Str)) aj))))) (aW (fC (.bl true))) bp)
  (a9 (eM (bo (f2 dJ (fA aM (fV 5 aj)) (fS ("copy" : Str)))) (aW (fC (.bl false))) bp)
  (a9 (aO 7 (bL (qO (fA gF (fV 0 (fV 1 aj)))) 1 [5] (dq 0) (bo (fA iC (af (fA au (fV 0 (af (fS ("matters" : Str)) aj))) (af (fA au (fV 1 (af (fS ("matters" : Str)) aj))) aj)))) (ai 0)))
  (aW (fA AM (af (bL (cj (ai 7)) 1 [2,6,0,3] (dq 0) fY (fA cQ (fV 1 (fV 0 (fV 2 (af (fA aP (af (f2 bP (ai 3) (ai 4)) aj)) aj)))))) aj))))))))
def lZ:=aN r9 5 3
def rA:FS :=
  (a9 (aO 6 (f2 bP (ai 0) (ai 3)))
  (a9 (eM (jq (bo (f2 tp (fA aM (fV 6 aj)) (fS ("call" : Str)))) (jq (bo (f2 tp (fA au (fV 6 (af (fS ("of" : Str)) aj))) (ai 4))) (bo (f2 Iq (fA aP (fV 6 aj)) (ai 5))))) (aW (fC (.bl false))) bp)
  (aW (jI (fA eu (fV 0 (fV 1 (fV 3 aj)))) (fA lZ (fV 0 (fV 1 (fV 2 (fV 3 (fV 4 aj))))))))))
def jQ:=aN rA 6 1
def rB:FS :=
  (a9 (eM (fJ (bo (fA eB (fV 0 (fV 1 (fV 3 aj)))))) (aW (fA bJ aj)) bp)
  (aW (bL (cj (fA cL (fV 0 (fV 1 aj)))) 1 [0,1,2,3,4] (dq 0) (bo (fA jQ (fV 1 (fV 2 (fV 3 (fV 0 (fV 4 (fV 5 aj)))))))) (ai 0))))
def jR:=aN rB 5 0
def zi:FS :=
  (a9 (eM (jq (fJ (bo (fA eu (fV 0 (fV 1 (fV 3 aj)))))) (bo (f2 Iq (fA aP (af (f2 bP (ai 0) (ai 3)) aj)) (ai 4)))) (aW (fC (.bl false))) bp)
  (aW (f2 dJ (fA gW (af (fA jR (fV 0 (fV 1 (fV 2 (fV 3 (fV 4 aj)))))) aj)) (fI 0))))
def nj:=aN zi 5 0
def zj:FS :=
  (eM (dS (bo (fA eB (fV 0 (fV 1 (fV 5 aj))))) (bo (fA nj (fV 0 (fV 1 (fV 3 (fV 5 (fV 2 aj)))))))) (qQ 4 (ai 5) (fA eC (fV 0 (fV 1 (fV 3 (fV 5 aj)))))) bp)
def C8:FS :=
  (a9 (yc 3 (fA kJ (fV 0 (fV 1 aj))))
  (a9 (Cr 4)
  (a9 (qg (cj (fA dZ (fV 0 (fV 1 aj)))) (dq 5) zj)
  (jr 4))))
def nn:=aN C8 3 3
def C9:FS :=
  (aW (Ip (f2 dJ (dQ 0 0) (fS ("office" : Str))) (f2 S3 (dQ 0 1) (ai 1))))
def np:=aN C9 2 0
def zk:FS :=
  (eM (bo (fA AM (af (bL (cj (ai 3)) 1 [1] (dq 0) fY (fA np (fV 0 (fV 1 aj)))) aj))) (yY 1 (ai 2) (fC (.bl true))) bp)
def CA:FS :=
  (a9 (Cr 1)
  (a9 (qg (pO (ai 0)) (EN [2,3]) zk)
  (jr 1)))
def jS:=aN CA 1 3
def rC:FS :=
  (aW (fA j3 (af (fA jS (af (fA nn (fV 0 (fV 1 (fV 2 aj)))) aj)) aj)))
def ma:=aN rC 3 0
def uJ:FS :=
  (a9 (aO 4 (fA nn (fV 0 (fV 1 (fV 2 aj)))))
  (a9 (aO 5 (fA jS (af (fA hV (af (bL (pO (ai 4)) 2 [3] (EN [0,1]) (bo (f2 tp (ai 0) (ai 2))) (fA aS (fV 0 (fV 1 aj)))) aj)) aj)))
  (aW (fA eN (af (bL (Bg (fA jS (fV 4 aj))) 1 [5] (dq 0) (bo (f2 qI (ai 0) (ai 1))) (ai 0)) aj)))))
def lr:=aN uJ 4 2
def zl:FS :=
  (a9 (aO 2 (fI 5))
  (a9 (eM (bo (f2 Iq (fA gW (fV 0 aj)) (fI 0))) (aO 2 (f2 bP (ai 0) (f2 bM (ai 1) (fA gW (fV 0 aj))))) bp)
  (a9 (aO 2 (f2 bM (f2 gG (f2 bY (f2 bY (f2 bM (ai 2) (fI 2147483629)) (f2 gG (fI 6151) (ai 1))) (fI 1)) (fI 48271)) (fI 2147483647)))
  (aW (f2 bM (f2 gG (ai 2) (f2 bY (f2 bY (f2 bM (ai 2) (fI 65519)) (ai 1)) (fI 2))) (fI 2147483629))))))
def di:=aN zl 2 1
def md:FS :=
  (a9 (aO 6 (fA iU (fV 2 aj)))
  (a9 (DK 6 (ai 3) (f2 bP (ai 1) (f2 bM (f2 bY (f2 cZ (ai 0) (fI 64)) (f2 gG (fI 3) (ai 5))) (fI 26))))
  (js 4 (f2 oJ (fS ("" : Str)) (ai 6)))))
def uK:FS :=
  (a9 (aO 1 (fS ("abcdefghijklmnopqrstuvwxyz" : Str)))
  (a9 (aO 2 (bL (fu (f2 bY (fI 1) (f2 bM (ai 0) (fI 8)))) 1 [1,0] (dq 0) fY (f2 bP (ai 1) (f2 bM (f2 cZ (ai 2) (f2 bY (fI 3) (f2 gG (fI 4) (ai 0)))) (fI 26)))))
  (a9 (aO 3 (f2 bM (f2 cZ (ai 0) (fI 8)) (fA gW (fV 2 aj))))
  (a9 (aO 4 (fA bJ aj))
  (a9 (jZ (fu (fI 7)) (dq 5) md)
  (a9 (eM (bo (f2 dJ (f2 bM (f2 cZ (ai 0) (fI 1000)) (fI 8)) (fI 1))) (DK 4 (fI 5) (dQ 4 0)) bp)
  (jr 4)))))))
def om:=aN uK 1 6
def pb:FS :=
  (a9 (aO 3 (fA bJ (af (fA aS (af (fI 0) (af (fC .non) aj))) (af (fA aS (fV 1 (af (fC .non) aj))) (af (fA aS (fV 1 (af (f2 bY (ai 1) (f2 gG (fI 3) (ai 2))) aj))) (af (fA aS (af (fI 0) (af (f2 bY (ai 1) (f2 gG (fI 2) (ai 2))) aj))) (af (fA aS (af (fI 0) (af (f2 gG (fI 9) (ai 2)) aj))) aj)))))))
  (a9 (aO 3 (f2 bY (ai 3) (fA bJ (af (fA aS (af (f2 bY (ai 1) (ai 2)) (af (f2 bY (ai 1) (f2 gG (fI 4) (ai 2))) aj))) (af (fA aS (af (f2 cZ (ai 1) (fI 2)) (af (f2 bY (ai 1) (f2 gG (fI 6) (ai 2))) aj))) (af (fA aS (af (fI 0) (af (fC .non) aj))) aj))))))
  (aW (f2 bP (ai 3) (f2 bM (ai 0) (fI 8))))))
def gR:=aN pb 3 1
def zm:FS :=
  (a9 (aO 7 (f2 bY (f2 bY (DY (fA bJ (af (fS ("leave" : Str)) aj)) (fI 5)) (DY (fA bJ (af (fS ("paper" : Str)) aj)) (fI 2))) (fA bJ (af (fS ("like" : Str)) (af (fS ("copy" : Str)) (af (fS ("copy" : Str)) (af (fS ("call" : Str)) (af (fS ("call" : Str)) aj))))))))
  (a9 (aO 7 (f2 bY (ai 7) (fA bJ (af (fS ("named" : Str)) (af (fS ("death" : Str)) (af (fS ("lost" : Str)) (af (fS ("found" : Str)) (af (fS ("chosen" : Str)) (af (fS ("heir" : Str)) aj)))))))))
  (a9 (aO 8 (f2 bP (ai 7) (f2 bM (ai 1) (fI 18))))
  (a9 (aO 9 (f2 bP (ai 5) (f2 AD (f1 qi (fI 1)) (f2 bM (f2 cZ (ai 1) (fI 18)) (fA Jz (af (fI 3) (af (fA gW (fV 5 aj)) aj)))))))
  (a9 (eM (bo (f2 dJ (f2 bM (f2 cZ (ai 1) (fI 54)) (fI 6)) (fI 1))) (aO 9 (f2 bP (ai 3) (f2 bM (f2 cZ (ai 1) (fI 324)) (fI 5)))) bp)
  (a9 (aO 10 (f2 bP (ai 3) (f2 bM (f2 cZ (ai 1) (fI 1620)) (fI 5))))
  (a9 (aO 11 (fA Jy (af (fI 0) (af (f2 AD (f2 AD (ai 0) (fI 1)) (f2 bM (ai 2) (fI 4))) aj))))
  (a9 (eM (bo (f2 dJ (f2 bM (f2 cZ (ai 2) (fI 4)) (fI 8)) (fI 1))) (aO 11 (f2 bM (f2 cZ (ai 2) (fI 32)) (fI 60))) bp)
  (a9 (eM (bo (f2 dJ (ai 8) (fS ("leave" : Str)))) (a9 (aO 12 (f2 bP (fA bJ (af (fI 3) (af (fI 1) (af (fI 7) (af (fI 2) (af (fI 255) (af (fI 5) (af (fI 1) (af (fI 3) aj))))))))) (f2 bM (f2 cZ (ai 1) (fI 8100)) (fI 8))))
  (a9 (aO 13 (f2 bM (f2 cZ (ai 2) (fI 256)) (f2 bP (fA bJ (af (fI 5) (af (fI 5) (af (fI 5) (af (fI 10) aj))))) (f2 bM (f2 cZ (ai 2) (fI 2560)) (fI 4)))))
  (aW (fA aS (fV 8 (fV 4 (fV 9 (fV 10 (fV 12 (af (fA gR (af (f2 cZ (ai 2) (fI 32)) (fV 4 (fV 6 aj)))) (fV 13 aj))))))))))) bp)
  (a9 (eM (jq (bo (f2 dJ (ai 8) (fS ("paper" : Str)))) (bo (f2 dJ (ai 8) (fS ("like" : Str))))) (a9 (aO 12 (f2 bP (fA bJ (af (fI 1) (af (fI 1) (af (fI 3) (af (fI 2) (af (fI 4) (af (fI 5) (af (fI 128) (af (fI 7) aj))))))))) (f2 bM (f2 cZ (ai 1) (fI 8100)) (fI 8))))
  (a9 (aO 14 (fA aS (fV 8 (fV 4 (fV 9 (fV 12 (af (fA gR (af (f2 cZ (ai 2) (fI 32)) (fV 4 (fV 6 aj)))) (af (f2 bP (fA bJ (af (fC .non) (fV 10 aj))) (f2 bM (f2 cZ (ai 2) (fI 256)) (fI 2))) aj))))))))
  (a9 (eM (bo (f2 dJ (ai 8) (fS ("like" : Str)))) (aW (f2 Co (ai 14) (fA aS (fV 11 (af (fA aS (af (fA aS (af (fI 0) (fV 10 aj))) aj)) aj))))) bp)
  (aW (f2 Co (ai 14) (fA aS (af (fA aS (fV 10 aj)) aj))))))) bp)
  (a9 (eM (bo (f2 oH (ai 8) (fA aS (af (fS ("copy" : Str)) (af (fS ("call" : Str)) aj))))) (aW (fA aS (fV 8 (fV 4 (fV 9 (fV 11 aj)))))) bp)
  (a9 (eM (bo (f2 dJ (ai 8) (fS ("named" : Str)))) (aW (fA aS (fV 8 (fV 4 (af (f2 bP (ai 3) (f2 bY (fI 5) (f2 bM (ai 2) (fI 2)))) (fV 10 aj)))))) bp)
  (a9 (eM (bo (f2 dJ (ai 8) (fS ("chosen" : Str)))) (aW (fA aS (fV 8 (fV 4 (fV 9 (af (f2 bP (ai 3) (f2 bY (fI 5) (f2 bM (ai 2) (fI 2)))) (fV 10 (af (f2 bY (ai 4) (f2 gG (f2 bM (f2 cZ (ai 2) (fI 32)) (fI 3)) (ai 6))) aj)))))))) bp)
  (a9 (eM (bo (f2 dJ (ai 8) (fS ("heir" : Str)))) (aW (fA aS (fV 8 (fV 4 (fV 9 (af (f2 bP (ai 3) (f2 bY (fI 5) (f2 bM (ai 2) (fI 2)))) (fV 10 aj))))))) bp)
  (aW (fA aS (fV 8 (fV 4 (fV 9 aj)))))))))))))))))))
def rE:=aN zm 7 8
def oq:FS :=
  (a9 (aO 8 (f2 bP (fA bJ (af (fS ("open" : Str)) (af (fS ("first" : Str)) (af (fS ("last" : Str)) aj)))) (f2 bM (f2 cZ (ai 4) (f2 bY (fI 64) (f2 gG (fI 9) (ai 7)))) (fI 3))))
  (a9 (aO 9 (f2 bP (fA bJ (af (fI 7) (af (fI 255) (af (fI 3) (af (fI 15) aj))))) (f2 bM (f2 cZ (ai 4) (f2 bY (fI 2) (f2 gG (fI 8) (ai 7)))) (fI 4))))
  (a9 (aO 10 (f2 gG (f2 gG (fA tu (af (f2 dJ (f2 bM (f2 cZ (ai 4) (f2 bY (fI 512) (ai 7))) (fI 8)) (fI 1)) aj)) (fI 4)) (ai 2)))
  (a9 (aO 11 (f2 bM (f2 cZ (ai 4) (f2 bY (fI 1024) (f2 gG (fI 5) (ai 7)))) (f2 bP (fA bJ (af (fI 5) (af (fI 5) (af (fI 10) aj)))) (f2 bM (f2 cZ (ai 4) (f2 bY (fI 31) (ai 7))) (fI 3)))))
  (a9 (js 5 (fA aS (fV 10 (af (fA aS (af (fS ("root" : Str)) (af (f2 bP (ai 1) (f2 bY (fI 5) (ai 7))) (fV 9 (fV 11 (fV 8 aj)))))) aj))))
  (a9 (js 5 (fA aS (af (fI 0) (af (fA aS (af (fS ("named" : Str)) (af (fI 0) (af (f2 bP (ai 1) (f2 bY (fI 5) (ai 7))) (af (f2 bP (ai 1) (ai 7)) aj))))) aj))))
  (js 6 (f2 bP (ai 1) (ai 7)))))))))
def ot:FS :=
  (a9 (aO 12 (fA di (fV 0 (af (f2 bY (fI 5) (ai 7)) aj))))
  (a9 (aO 13 (f2 gG (f2 bY (f2 cZ (ai 7) (fI 2)) (f2 bM (f2 cZ (ai 12) (fI 7)) (fI 3))) (ai 2)))
  (a9 (aO 14 (fA rE (af (fA gW (fV 5 aj)) (af (fA di (fV 0 (af (f2 bY (fI 30) (ai 7)) aj))) (af (fA di (fV 0 (af (f2 bY (fI 60) (ai 7)) aj))) (fV 1 (fV 13 (fV 6 (fV 2 aj)))))))))
  (a9 (eM (bo (f2 oH (dQ 14 0) (fA aS (af (fS ("leave" : Str)) (af (fS ("named" : Str)) aj))))) (js 6 (dQ 14 3)) bp)
  (a9 (eM (bo (f2 dJ (dQ 14 0) (fS ("chosen" : Str)))) (js 6 (dQ 14 4)) bp)
  (js 5 (fA aS (af (f2 bY (ai 13) (f2 gG (f2 bP (fA bJ (af (fI 0) (af (fI 0) (af (fI 0) (af (fI 0) (af (fI 1) (af (fI 4) aj))))))) (f2 bM (f2 cZ (ai 12) (fI 21)) (fI 6))) (ai 2))) (fV 14 aj)))))))))
def zn:FS :=
  (a9 (aO 4 (fA di (fV 0 (af (fI 1) aj))))
  (a9 (aO 5 (fA bJ aj))
  (a9 (aO 6 (fA bJ aj))
  (a9 (jZ (fu (f2 bY (fI 1) (f2 bM (ai 4) (fI 2)))) (dq 7) oq)
  (a9 (jZ (fu (f2 bY (fI 3) (f2 bM (fA di (fV 0 (af (fI 2) aj))) (ai 3)))) (dq 7) ot)
  (aW (fA gJ (fV 5 aj))))))))
def rF:=aN zn 4 11
def CB:FS :=
  (aW (fA jR (fV 0 (fV 1 (af (fA kJ (fV 0 (fV 1 aj))) (fV 2 (fV 3 aj)))))))
def pT:=aN CB 4 0
def CC:FS :=
  (aW (fA eC (fV 0 (fV 1 (af (fA kJ (fV 0 (fV 1 aj))) (fV 2 aj))))))
def xc:=aN CC 3 0
def nq:FS :=
  (a9 (y4 [5,6] (f2 bP (ai 0) (ai 4)))
  (eM (dS (bo (f2 xI (ai 5) (ai 1))) (dS (bo (f2 oH (dQ 6 0) (fA aS (af (fS ("leave" : Str)) (af (fS ("paper" : Str)) (af (fS ("like" : Str)) (af (fS ("copy" : Str)) aj))))))) (bo (f2 xI (dQ 6 1) (ai 2))))) (eM (dS (bo (fA eu (fV 0 (fV 1 (fV 4 aj))))) (bo (f2 dJ (fA pT (fV 0 (fV 1 (fV 4 (fV 2 aj))))) (fA bJ aj)))) (js 3 (fA aS (af (dQ 6 1) (fV 4 aj)))) bp) bp))
def pe:FS :=
  (a9 (aO 3 (fA bJ aj))
  (a9 (jZ (fu (fA gW (fV 0 aj))) (dq 4) nq)
  (aW (bL (cj (fA eN (fV 3 aj))) 2 [0,1] (EN [0,1]) fY (fA aS (fV 1 (af (fA xc (fV 2 (fV 3 (fV 1 aj)))) aj)))))))
def kM:=aN pe 3 4
def rG:FS :=
  (eM (dS (bo (f2 tp (ai 3) (ai 1))) (bo (fA AM (af (bL (cj (ai 4)) 1 [2] (dq 0) fY (Ip (f2 dJ (dQ 0 0) (fS ("office" : Str))) (f2 oH (f2 bP (ai 0) (f1 qi (fI 1))) (ai 1)))) aj)))) (js 2 (ai 3)) bp)
def uL:FS :=
  (a9 (aO 2 (fA bJ aj))
  (a9 (qg (cj (ai 0)) (EN [3,4]) rG)
  (jr 2)))
def ls:=aN uL 2 3
def Bk:FS :=
  (a9 (aO 13 (fA lr (fV 5 (fV 4 (fV 6 (fV 9 aj))))))
  (a9 (eM (jq (fJ (bo (fA cF (fV 13 (af (fC (.ty "list")) aj))))) (jq (bo (f2 tp (ai 13) (ai 10))) (bo (f2 tp (f2 oH (ai 9) (ai 7)) (f2 oH (ai 9) (ai 13)))))) (aW (fC (.bl false))) bp)
  (a9 (eM (fJ (bo (fA NE (af (bL (cj (ai 13)) 1 [] (dq 0) fY (jI (fA cF (fV 0 (af (fC (.ty "int")) aj))) (AB (fA cF (fV 0 (af (fC (.ty "bool")) aj)))))) aj)))) (aW (fC (.bl false))) bp)
  (js 13 (ai 9)))))
def Bl:FS :=
  (a9 (aO 10 (fA bJ aj))
  (a9 (eM (bo (f2 oH (ai 9) (ai 7))) (a9 (aO 11 (fA ls (fV 8 (fV 9 aj))))
  (aO 10 (bL (cj (ai 7)) 1 [11] (dq 0) (bo (f2 eS (ai 0) (ai 1))) (ai 0)))) bp)
  (jZ (fu (f2 bY (fI 1) (fA tu (af (f2 dJ (f2 bM (ai 9) (fI 4)) (fI 1)) aj)))) (dq 12) Bk)))
def LQ:FS :=
  (a9 (aO 1 (fA om (af (fA di (fV 0 (af (fI 0) aj))) aj)))
  (a9 (aO 2 (f2 bP (fA bJ (af (fI 1) (af (fI 1) (af (fI 500) aj)))) (f2 bM (fA di (fV 0 (af (fI 3) aj))) (fI 3))))
  (a9 (aO 3 (fA rF (fV 0 (fV 1 (fV 2 (af (fI 14) aj))))))
  (a9 (aO 4 (f2 bP (fA bJ (af (fI 9999) (af (f2 gG (f2 bM (f2 cZ (fA di (fV 0 (af (fI 3) aj))) (fI 3)) (fI 13)) (ai 2)) aj))) (f2 cZ (f2 bM (fA di (fV 0 (af (fI 4) aj))) (fI 3)) (fI 2))))
  (a9 (aO 5 (fA gJ (af (fA iU (fV 3 aj)) aj)))
  (a9 (aO 6 (f2 bP (fA bJ (af (fI 9999) (af (f2 gG (f2 bM (f2 cZ (fA di (fV 0 (af (fI 90) aj))) (fI 2)) (fI 13)) (ai 2)) aj))) (f2 bM (fA di (fV 0 (af (fI 90) aj))) (fI 2))))
  (a9 (aO 7 (fA ma (fV 3 (fV 4 (fV 6 aj)))))
  (a9 (aO 8 (fA kM (fV 3 (fV 4 (fV 6 aj)))))
  (a9 (jZ (fu (fA gW (fV 3 aj))) (dq 9) Bl)
  (aW (f2 dJ (ai 5) (ai 3))))))))))))
def F_law:=aN LQ 1 13
end Lw
namespace DL
open PySem L2
theorem jT:∀(n m:Nat)(d:D),n<=m->aq n d=true->aq m d=true
 |n,m,.non,_,_=>by simp
 |n,m,.bl _,_,_=>by simp
 |n,m,.int _,_,_=>by simp
 |n,m,.str _,_,_=>by simp
 |n,m,.ty _,_,h=>by cases n<;>simp[aq]at h
 |n,m,.dk _ _,_,h=>by simp at h
 |n,m,.dt _ _,_,h=>by simp at h
 |0,m,.tup _,_,h=>by simp[aq]at h
 |0,m,.lst _,_,h=>by simp[aq]at h
 |n+1,0,_,h,_=>by omega
 |n+1,m+1,.tup ds,hl,h=>by
  simp only[aq,List.all_eq_true]at h ⊢;exact λd hd=>jT n m d (by omega) (h d hd)
 |n+1,m+1,.lst ds,hl,h=>by
  simp only[aq,List.all_eq_true]at h ⊢;exact λd hd=>jT n m d (by omega) (h d hd)
theorem ou:∀(ds:List D),(∀d∈ds,bG d d=true)->dB ds ds=true
 |[],_=>by simp only[dB]
 |d::ds,h=>by
  simp only[dB,h d mX,Bool.true_and];exact ou ds λe he=>h e (mZ _ he)
theorem nu:∀(n:Nat)(d:D),aq n d=true->bG d d=true
 |n,.non,_=>by simp
 |n,.bl _,_=>by simp
 |n,.int _,_=>by simp
 |n,.str _,_=>by simp
 |n,.ty _,h=>by cases n<;>simp[aq]at h
 |n,.dk _ _,h=>by simp at h
 |n,.dt _ _,h=>by simp at h
 |0,.tup _,h=>by simp[aq]at h
 |0,.lst _,h=>by simp[aq]at h
 |n+1,.tup ds,h=>by
  simp only[aq,List.all_eq_true]at h;simp only[bG];exact ou ds λd hd=>nu n d (h d hd)
 |n+1,.lst ds,h=>by
  simp only[aq,List.all_eq_true]at h;simp only[bG];exact ou ds λd hd=>nu n d (h d hd)
theorem GS {d:D}(h:aq 40 d=true):dJ d d=some (.bl true,false):=by unfold dJ;rw[if_pos ⟨h,h⟩,nu 40 d h]
end DL
namespace DL
@[simp] noncomputable abbrev sF (d:D):Option (D×Bool):=some (d,false)
end DL
namespace Lw
open PySem DL L2
theorem Iv (d:D)(r:List D):oE (d::r) 0=some d:=by have:=kG (xs:=d::r) (j:=0) (by simp);simpa using this
theorem Iw (d e:D)(r:List D):oE (d::e::r) 1=some e:=by have:=kG (xs:=d::e::r) (j:=1) (by simp);simpa using this
theorem VP (d e f:D)(r:List D):oE (d::e::f::r) 2=some f:=by have:=kG (xs:=d::e::f::r) (j:=2) (by simp);simpa using this
noncomputable def da (k:Str):Bool:=decide (k=("death" : Str)) || decide (k=("lost" : Str)) || decide (k=("found" : Str))
noncomputable def eD (k:Str):Bool:=decide (k=("chosen" : Str)) || decide (k=("heir" : Str)) || decide (k=("leave" : Str)) || decide (k=("paper" : Str)) || decide (k=("like" : Str)) || decide (k=("copy" : Str)) || decide (k=("call" : Str))
structure DeedP (kind:Str)(aF:List D):Prop where
 flat:b9 aF=true
 plain:aF.all (aq 5)=true
 three:da kind=true->∃(day:Int)(p:Str),aF=[.int day,.str p]
 slg:eD kind=true->∃(day:Int)(p:Str)(r:List D),aF=.int day::.str p::r
noncomputable def row (h:Int)(kind:Str)(aF:List D):D:=.tup [.int h,.tup (.str kind::aF)]
def nv (r:D):Prop:=∃h kind aF,r=row h kind aF/\DeedP kind aF
theorem nv.flat (h:nv r):bg r=true:=by obtain⟨a,k,aF,rfl,dp⟩:=h;simp[row,dp.flat]
theorem nv.plain (h:nv r):aq 39 r=true:=by
 obtain⟨a,k,aF,rfl,dp⟩:=h;refine jT 7 39 _ (by decide) ?_;have:=dp.plain;simp only[row,aq,List.all_cons,List.all_nil,Bool.and_true,Bool.true_and];exact this
theorem bV (h:∀d∈ds,bg d=true):b9 ds=true:=by
 induction ds with
 |nil=>rfl
 |cons d r ih=>simp[h d (by simp),ih λe he=>h e (by simp[he])]
theorem eE (zs:List Str):b9 (zs.map D.str)=true:=by
 induction zs with
 |nil=>rfl
 |cons a l ih=>simp[ih]
theorem Kk (h:∀r∈ab,nv r):dJ (.tup ab) (.tup ab)=sF (.bl true):=by
 refine GS ?_;simp only[aq,List.all_eq_true];exact λr hr=>(h r hr).plain
noncomputable def bc:D->Int
 |.tup (.int h::_)=>h
 |_=>0
noncomputable def kindOf:D->Str
 |.tup [_,.tup (.str k::_)]=>k
 |_=>("" : Str)
noncomputable def aA:D->Int
 |.tup [_,.tup (_::.int d::_)]=>d
 |_=>0
noncomputable def uM (p:Str)(day:Int):List D->Bool
 |[.int d,.str q]=>decide (q=p) && decide (d<=day)
 |_=>false
def told (ws:List Str)(p:Str)(day:Int):D->Bool
 |.tup [_,.tup (.str kind::aF)]=>decide (kind∈ws) && uM p day aF
 |_=>false
theorem iZ (h:Int)(kind:Str)(aF:List D):aM [row h kind aF]=sF (.str kind):=av rfl (az (by simp[row,Iw,Iv]))
theorem kO (h:da k=true):k=("death" : Str)∨k=("lost" : Str)∨k=("found" : Str):=by
 unfold da at h;simp only[Bool.or_eq_true,decide_eq_true_eq]at h;rcases h with (h|h)|h
 ·exact .inl h
 ·exact .inr (.inl h)
 ·exact .inr (.inr h)
theorem mf (h:eD k=true):k=("chosen" : Str)∨k=("heir" : Str)∨k=("leave" : Str)∨k=("paper" : Str)∨k=("like" : Str)∨k=("copy" : Str)∨k=("call" : Str):=by
 unfold eD at h;simp only[Bool.or_eq_true,decide_eq_true_eq]at h;rcases h with (((((h|h)|h)|h)|h)|h)|h
 ·exact .inl h
 ·exact .inr (.inl h)
 ·exact .inr (.inr (.inl h))
 ·exact .inr (.inr (.inr (.inl h)))
 ·exact .inr (.inr (.inr (.inr (.inl h))))
 ·exact .inr (.inr (.inr (.inr (.inr (.inl h)))))
 ·exact .inr (.inr (.inr (.inr (.inr (.inr h)))))
theorem Kl (h:da k=true∨eD k=true):pC hW (.str k) (.str "day")=sF (.int 0):=by
 rcases h with h|h
 ·rcases kO h with rfl|rfl|rfl<;>exact bq (by decide +kernel)
 ·rcases mf h with rfl|rfl|rfl|rfl|rfl|rfl|rfl<;>exact bq (by decide +kernel)
theorem Bm (h:da k=true):pC hW (.str k) (.str "person")=sF (.int 1):=by
 rcases kO h with rfl|rfl|rfl<;>exact bq (by decide +kernel)
theorem GU (h:da k=true∨eD k=true):dJ (.str k) (.str "root")=sF (.bl false):=by
 rcases h with h|h
 ·rcases kO h with rfl|rfl|rfl<;>exact bq (by decide +kernel)
 ·rcases mf h with rfl|rfl|rfl|rfl|rfl|rfl|rfl<;>exact bq (by decide +kernel)
theorem bw {h:Int}{k:Str}{aF:List D}{part:Str}{i:Nat}{d:D}(hi:pC hW (.str k) (.str part)=sF (.int i))(hd:aF[i]? = some d):au [row h k aF,.str part]=some (d,false):=by
 refine av rfl (az ?_);refine bB (.tup (.str k::aF)) (.int (1+i)) (by simp[row,Iw]) (bB (.int 1) (.int i) rfl (bB (.str k) (.str part) (aJ [row h k aF] rfl (iZ _ _ _)) rfl hi) (by simp)) ?_;have fN:i<aF.length:=(vV hd).1;have:oE (.str k::aF) (1+(i:Int))=some d:=by
  have:=kG (xs:=(.str k:D)::aF) (j:=i+1) (by simp;omega);rw[show(1+(i:Int))=((i+1:Nat):Int) by omega,this];simp only[List.getElem_cons_succ];rw[vU fN]at hd;exact hd
 simp[this]
theorem j8 {h:Int}{k:Str}{aF:List D}{d:Int}{r:List D}(hk:da k=true∨eD k=true)(hr:aF=.int d::r):aP [row h k aF]=sF (.int d):=by
 subst hr;refine av rfl (aC (cS (bB (.str k) (.str "root") (aJ [row h k (.int d::r)] rfl (iZ _ _ _)) rfl (GU hk))) (az (aJ [row h k (.int d::r),.str "day"] rfl (bw (i:=0) (Kl hk) rfl))))
theorem rH (k:Str)(ws:List Str):Ir (.str k) (ws.map .str)=decide (k∈ws):=by
 induction ws with
 |nil=>simp[Ir]
 |cons w ws ih=>
  have:Ir (.str k) ((w::ws).map .str)=(bG (.str w) (.str k) || Ir (.str k) (ws.map .str)):=rfl;rw[this,ih,oG];by_cases e:w=k
  ·simp[e]
  ·have e':¬k=w:=λz=>e z.symm;simp[e,e']
theorem oy (ws:List Str):(ws.map D.str).all fZ=true:=by
 induction ws with
 |nil=>rfl
 |cons w ws ih=>simp[fZ]
theorem iE (k:Str)(ws:List Str):oH (.str k) (.tup (ws.map .str))=sF (.bl (decide (k∈ws))):=by
 simp only[oH,gH,vJ,rH];rw[if_pos ⟨rfl,oy ws⟩]
theorem GV (hr:nv r)(ws:List Str)(hw:∀w∈ws,da w=true)(p:Str)(day:Int):pQ [r,.tup (ws.map .str),.str p,.int day]=sF (.bl (told ws p day r)):=by
 obtain⟨h,kind,aF,rfl,dp⟩:=hr;have ET:f2 oH (fA aM (fV 0 aj)) (ai 1) [some (row h kind aF,false),sF (.tup (ws.map .str)),sF (.str p),sF (.int day)]=sF (.bl (decide (kind∈ws))) :=
  bB (.str kind) (.tup (ws.map .str)) (aJ [row h kind aF] rfl (iZ _ _ _)) rfl (iE kind ws)
 have ht:told ws p day (row h kind aF)=(decide (kind∈ws) && uM p day aF):=rfl;rw[ht];refine av rfl (az (dL (b1:=false) ET λhk=>?_));have h3:=hw kind (of_decide_eq_true hk);obtain⟨d,q,rfl⟩:=dp.three h3;show jI _ _ _=sF (.bl (decide (q=p) && decide (d<=day)));refine dL (b1:=false) ?_ λ_=>?_
 ·exact bB (.str q) (.str p) (aJ [row h kind [.int d,.str q],.str "person"] rfl (bw (i:=1) (Bm h3) rfl)) rfl (by simp)
 ·exact bB (.int d) (.int day) (aJ [row h kind [.int d,.str q]] rfl (j8 (.inl h3) rfl)) rfl (by simp)
theorem GW (ds:List D):uc ds=ds.zipIdx.map λx=>.tup [.int x.2,x.1]:=by
 unfold uc;apply List.ext_getElem?;intro i;simp[List.getElem?_mapIdx,List.getElem?_zipIdx];cases ds[i]?<;>simp
noncomputable def ak (ab:List D)(aa:Int):List (D×Nat):=ab.zipIdx.filter λx=>decide (bc x.1<=aa)
theorem kP (ab:List D)(hr:∀r∈ab,nv r)(hl:ab.length<=1000)(aa:Int):cL [.tup ab,.int aa]=some (.lst ((ak ab aa).map λx=>.int x.2),true):=by
 have hc:=gO (fi:=Gi (ai 0)) (nT:=2) (cap:=[1]) (tg:=EN [0,1]) (c:=bo (f2 xI (dQ 1 0) (ai 2))) (fe:=ai 0) (ρ:=[sF (.tup ab),sF (.int aa)]) ab.zipIdx (λx=>.tup [.int x.2,x.1]) (λx=>decide (bc x.1<=aa)) (λx=>.int x.2)
  (by simp[GW]) (by simp;omega) λx hx=>by
   obtain⟨h,kind,aF,e,_⟩:=hr x.1 (List.fst_mem_of_mem_zipIdx hx);refine⟨_,rfl,cS ?_,λ_=>⟨false,by simp[cH]⟩⟩;simp[cH,e,row,Iv,bc]
 exact av rfl (az hc)
def pD (ab:List D)(aa:Int)(ws:List Str)(p:Str)(day:Int):List (D×Nat):=(ak ab aa).filter λx=>told ws p day x.1
theorem CD (h:x∈pD ab aa ws p day):ab[x.2]? = some x.1/\told ws p day x.1=true:=by
 obtain⟨h1,h2⟩:=vN h;exact⟨(List.mk_mem_zipIdx_iff_getElem? (x:=x.1) (i:=x.2)).mp (vN h1).1,h2⟩
theorem cK {ab:List D}{i:Nat}{r:D}(h:ab[i]? = some r):oE ab (i:Int)=some r:=by
 obtain⟨fN,e⟩:=vV h;rw[kG fN,e]
theorem Km (ab:List D)(aa:Int)(ws:List Str)(p:Str)(day:Int):(pD ab aa ws p day).length<=ab.length:=by
 have h1:=vM (λx:D×Nat=>told ws p day x.1) (ak ab aa);have h2:=vM (λx:D×Nat=>decide (bc x.1<=aa)) ab.zipIdx;rw[List.length_zipIdx]at h2;exact vR h1 h2
theorem xf (ab:List D)(hr:∀r∈ab,nv r)(hl:ab.length<=1000)(aa:Int)(ws:List Str)(hw:∀w∈ws,da w=true)(p:Str)(day:Int):
  iq [.tup ab,.int aa,.tup (ws.map .str),.str p,.int day]=some (.lst ((pD ab aa ws p day).map λx=>.int x.2),true):=by
 have hc:=gO (fi:=cj (fA cL (fV 0 (fV 1 aj)))) (nT:=1) (cap:=[2,3,4,0]) (tg:=dq 0) (c:=bo (fA pQ (af (f2 bP (ai 4) (ai 0)) (fV 1 (fV 2 (fV 3 aj)))))) (fe:=ai 0)
  (ρ:=[sF (.tup ab),sF (.int aa),sF (.tup (ws.map .str)),sF (.str p),sF (.int day)]) (ak ab aa) (λx=>.int x.2) (λx=>told ws p day x.1) (λx=>.int x.2)
  (by
   show(fA cL (fV 0 (fV 1 aj)) _).bind _=_;rw[aJ [.tup ab,.int aa] rfl (kP ab hr hl aa)];rfl) (by have:=vM (λx:D×Nat=>decide (bc x.1<=aa)) ab.zipIdx;rw[List.length_zipIdx]at this;exact vR this (by omega)) λx hx=>by
   have hg:ab[x.2]? = some x.1:=(List.mk_mem_zipIdx_iff_getElem? (x:=x.1) (i:=x.2)).mp (vN hx).1;refine⟨_,rfl,cS (aJ [x.1,.tup (ws.map .str),.str p,.int day] ?_ (GV (hr _ (vL hg)) ws hw p day)),λ_=>⟨false,by simp[cH]⟩⟩;have ha:=cK hg;simp[cH,ha]
 exact av rfl (az hc)
def kA (x:D×Nat):List At:=[.i (aA x.1),.i x.2]
def ge (a b:D×Nat):Bool:=decide (aA a.1<aA b.1∨(aA a.1=aA b.1/\(a.2:Int)<b.2))
def gY:D×Nat->List (D×Nat)->D×Nat
 |b,[]=>b
 |b,x::r=>if ge b x=true then gY x r else gY b r
def LR:List (D×Nat)->Option (D×Nat)
 |[]=>none
 |x::r=>some (gY x r)
theorem Oe (a b c d:Int):aZ [.i a,.i b] [.i c,.i d]=some (decide (a<c∨(a=c/\b<d))):=by
 rw[aZ];by_cases h:a=c
 ·rw[if_pos h,aZ];by_cases h2:b=d
  ·rw[if_pos h2,aZ];simp[h,h2]
  ·rw[if_neg h2];simp[h]
 ·rw[if_neg h];simp[h]
theorem Bn (a b:D×Nat):aZ (kA a) (kA b)=some (ge a b):=Oe _ _ _ _
theorem pU (l:List (D×Nat)):dz (l.map kA)=true:=by
 unfold dz;simp[List.all_eq_true,Bn]
theorem oz:∀(r:List (D×Nat))(b:D×Nat),mN (kA b,.int b.2) (r.map λx=>(kA x,D.int x.2))=.int (gY b r).2
 |[],b=>rfl
 |x::r,b=>by
  rw[uY,mN,gY];show(if aZ (kA b) (kA x)=some true then _ else _)=_;rw[Bn];by_cases h:ge b x=true
  ·rw[if_pos h,if_pos (by rw[h])];exact oz r x
  ·rw[if_neg h,if_neg (by simpa using h)];exact oz r b
theorem rJ:∀(r:List (D×Nat))(b:D×Nat),gY b r∈b::r
 |[],b=>by simp[gY]
 |x::r,b=>by
  rw[gY];split
  ·exact mZ _ (rJ r x)
  ·rcases vP (rJ r b)with h|h
   ·rw[h];exact mX
   ·exact mZ _ (mZ _ h)
theorem iF {α:Type}{f:D->Option D}{g h:α->D}:∀(l:List α),(∀x∈l,f (g x)=some (h x))->jO f (l.map g)=some (l.map h)
 |[],_=>rfl
 |x::l,hx=>by
  rw[uY,jO,hx x mX,vJ,iF l λy hy=>hx y (mZ _ hy)];rfl
theorem g7 {α:Type}{g:α->D}{h:α->List At}:∀(l:List α),(∀x∈l,mI (g x)=some (h x))->dA (l.map g)=some (l.map h)
 |[],_=>rfl
 |x::l,hx=>by
  rw[uY,dA,hx x mX,vJ,g7 l λy hy=>hx y (mZ _ hy)];rfl
noncomputable def nw:List Str:=[("lost" : Str),("found" : Str)]
theorem ph:∀w∈nw,da w=true:=by
 intro w hw;rcases vP hw with rfl|hw
 ·decide +kernel
 ·rcases vP hw with rfl|hw
  ·decide +kernel
  ·cases hw
def zo (ab:List D)(aa:Int)(p:Str)(day:Int):Bool:=match LR (pD ab aa nw p day) with
 |none=>true
 |some b=>decide (kindOf b.1=("found" : Str))
theorem rK (hw:∀w∈ws,da w=true)(hr:nv r)(ht:told ws p day r=true):∃h k d,r=row h k [.int d,.str p]/\da k=true/\k∈ws/\d<=day:=by
 obtain⟨h,kind,aF,rfl,dp⟩:=hr;have R4:(decide (kind∈ws) && uM p day aF)=true:=ht;rw[vC]at R4;have hm:=of_decide_eq_true R4.1;obtain⟨d,q,rfl⟩:=dp.three (hw _ hm);have hq:(decide (q=p) && decide (d<=day))=true:=R4.2;rw[vC]at hq;have:=of_decide_eq_true hq.1;subst this;exact⟨h,kind,d,rfl,hw _ hm,hm,of_decide_eq_true hq.2⟩
theorem CF {ab:List D}{i:Nat}{h d:Int}{k p:Str}(hg:ab[i]? = some (row h k [.int d,.str p]))(h3:da k=true):fE [.tup ab,.int i]=sF (.tup [.int d,.int i]):=by
 have ha:=cK hg;refine av rfl (az (aJ [.int d,.int i] (aE (d:=.int d) (b:=false) (aJ [row h k [.int d,.str p]] (by simp[ha]) (j8 (.inl h3) rfl)) rfl) (by simp[sizeLine])))
theorem Kn (ab:List D)(hr:∀r∈ab,nv r)(hl:ab.length<=1000)(aa:Int)(p:Str)(day:Int):lX [.tup ab,.int aa,.str p,.int day]=sF (.bl (zo ab aa p day)):=by
 have ht:=xf ab hr hl aa nw ph p day;have UP:=Km ab aa nw p day;have key:∀x∈pD ab aa nw p day,∃h k d,ab[x.2]? = some (row h k [.int d,.str p])/\x.1=row h k [.int d,.str p]/\da k=true:=λx hx=>by
  obtain⟨hg,Vi⟩:=CD hx;obtain⟨h,k,d,e,h3,_⟩:=rK ph (hr _ (vL hg)) Vi;exact⟨h,k,d,by rw[hg,e],e,h3⟩
 unfold zo;generalize hsel:pD ab aa nw p day=sel at ht key UP ⊢;have Ld:fA iq (fV 0 (fV 1 (af (fA aS (af (fS ("lost" : Str)) (af (fS ("found" : Str)) aj))) (fV 2 (fV 3 aj))))) [sF (.tup ab),sF (.int aa),sF (.str p),sF (.int day),none]=some (.lst (sel.map λx=>.int x.2),true) :=
  aJ [.tup ab,.int aa,.tup (nw.map .str),.str p,.int day] (by simp[nw,sizeLine]) ht
 have SY:b9 (sel.map λx=>D.int x.2)=true:=bV λd hd=>by obtain⟨x,_,rfl⟩:=vO hd;rfl
 cases sel with
 |nil=>exact av rfl (cx Ld SY (bI (cS (by simp)) (az rfl)))
 |cons x r=>
  refine av rfl (cx Ld SY (aC (cS (by simp;omega)) (az ?_)));obtain⟨h,k,d,hg,e,h3⟩:=key (gY x r) (rJ r x);have hb:kindOf (gY x r).1=k:=by rw[e];rfl
  show _=some (D.bl (decide (kindOf (gY x r).1=("found" : Str))),false);rw[hb];refine bB (.str k) (.str "found") (aJ [row h k [.int d,.str p]] (aE (d:=row h k [.int d,.str p]) (b:=false) (bB (.tup ab) (.int (gY x r).2) rfl ?_ (by simp[cK hg])) rfl) (iZ _ _ _)) rfl (by simp);have hm:∀ρ:DL.Env,ρ[0]? = some (sF (.tup ab))->jO (qC [0] (fA fE (fV 1 (fV 0 aj))) ρ) ((x::r).map λx=>D.int x.2)=some ((x::r).map λx=>.tup [.int (aA x.1),.int x.2]):=λρ h0=>
   iF (x::r) λy hy=>by
    obtain⟨h,k,d,hg,e,h3⟩:=key y hy;have hd:aA y.1=d:=by rw[e];rfl
    rw[hd];show(fA fE _ _).map _=_;rw[aJ [.tup ab,.int y.2] (by simp[cH,h0]) (CF hg h3)];rfl
  have hk:dA ((x::r).map λx=>D.tup [.int (aA x.1),.int x.2])=some ((x::r).map kA):=g7 (x::r) λy _=>rfl;have hz:((x::r).map kA).zip ((x::r).map λx=>D.int x.2)=(kA x,.int x.2)::r.map λx=>(kA x,D.int x.2):=by
   rw[List.zip_map'];rfl
  show(ux (ai 4) _ _)=_;unfold ux NS;show((some (D.lst ((x::r).map λx=>D.int x.2),false)).bind _)=_;simp only[vJ];rw[hm _ rfl];simp only[vJ];rw[hk];simp only[vJ];rw[if_pos (pU _),hz];simp only[oz]
noncomputable def eF:List Str:=[("death" : Str)]
theorem jU:∀w∈eF,da w=true:=by
 intro w hw;rcases vP hw with rfl|hw
 ·decide +kernel
 ·cases hw
def o0 (ab:List D)(aa:Int)(p:Str)(day:Int):Bool:=(pD ab aa eF p day).isEmpty
theorem zp (ab:List D)(hr:∀r∈ab,nv r)(hl:ab.length<=1000)(aa:Int)(p:Str)(day:Int):mU [.tup ab,.int aa,.str p,.int day]=sF (.bl (o0 ab aa p day)):=by
 have ht:=xf ab hr hl aa eF jU p day;unfold o0;generalize pD ab aa eF p day=sel at ht ⊢;refine av rfl (az (bB (.int ((sel.map λx=>D.int x.2).length:Nat)) (.int 0) ?_ rfl ?_))
 ·exact aJ [.lst (sel.map λx=>.int x.2)] (aE (d:=.lst (sel.map λx=>.int x.2)) (b:=true) (aJ [.tup ab,.int aa,.tup (eF.map .str),.str p,.int day] (by simp[sizeLine,eF]) ht) rfl) Kj
 ·rw[C2];cases sel<;>simp
  omega
noncomputable def dj:D->Str
 |.tup [_,.tup (_::_::.str p::_)]=>p
 |_=>("" : Str)
noncomputable def zq:List Str:=[("chosen" : Str),("heir" : Str),("leave" : Str),("paper" : Str),("like" : Str),("copy" : Str),("call" : Str)]
theorem rL (k:Str):eD k=decide (k∈zq):=by
 unfold eD zq;simp[List.mem_cons,Bool.or_assoc]
theorem Bo:iA=.tup (zq.map .str):=rfl
theorem pi (k:Str)(ws:List Str):eS (.str k) (.tup (ws.map .str))=sF (.bl (!decide (k∈ws))):=by
 simp only[eS,gH,vJ,rH];rw[if_pos ⟨rfl,oy ws⟩]
theorem GX (h:eD k=true):pC hW (.str k) (.str "by")=sF (.int 1):=by
 rcases mf h with rfl|rfl|rfl|rfl|rfl|rfl|rfl<;>exact bq (by decide +kernel)
def fG (ab:List D)(aa:Int)(r:D):Bool:=(decide (bc r<=aa) && eD (kindOf r)) && (o0 ab aa (dj r) (aA r) && zo ab aa (dj r) (aA r))
theorem kQ {ab:List D}{i:Nat}{h:Int}{kind:Str}{aF:List D}(hg:ab[i]? = some (row h kind aF))(aa:Int):cJ [.tup ab,.int aa,.int i]=sF (.bl (decide (h<=aa))):=by
 have fN:i<ab.length:=(vV hg).1;have ha:=cK hg;refine av rfl (az ?_);have:=dL (f1:=nV xI Q9 (fI 0) (ai 2) (fA gW (fV 0 aj))) (f2:=f2 xI (f2 bP (f2 bP (ai 0) (ai 2)) (fI 0)) (ai 1)) (ρ:=[sF (.tup ab),sF (.int aa),sF (.int i)]) (p:=true) (q:=decide (h<=aa)) (b1:=false)
  (by
   refine(zd (x:=.int 0) (y:=.int i) (z:=.int ab.length) (b1:=false) (b2:=false) (b3:=false) (b4:=false) (p:=true) (q:=true) rfl rfl (by simp) (by simp) λ_=>?_).trans rfl;simp;omega) λ_=>by simp[ha,row,Iv]
 exact this
theorem nz (ab:List D)(hr:∀r∈ab,nv r)(hl:ab.length<=1000)(aa:Int){i:Nat}{r:D}(hg:ab[i]? = some r):eu [.tup ab,.int aa,.int i]=sF (.bl (fG ab aa r)):=by
 obtain⟨h,kind,aF,rfl,dp⟩:=hr r (vL hg);have hk:=kQ hg aa;have ha:=cK hg;have RX:∀(ρ:DL.Env),f2 bP (ai 0) (ai 2) ρ=some (row h kind aF,false)->fA aM (af (f2 bP (ai 0) (ai 2)) aj) ρ=sF (.str kind):=λρ e=>aJ [row h kind aF] (aE e rfl) (iZ _ _ _);have Ic:f2 bP (ai 0) (ai 2) [sF (.tup ab),sF (.int aa),sF (.int i),none,none]=some (row h kind aF,false):=by simp[ha]
 have hc:(jq (fJ (bo (fA cJ (fV 0 (fV 1 (fV 2 aj)))))) (bo (f2 eS (fA aM (af (f2 bP (ai 0) (ai 2)) aj)) (fC iA)))) [sF (.tup ab),sF (.int aa),sF (.int i),none,none]=some (!decide (h<=aa) || !eD kind):=by
  refine cW (cy (cS (aJ [.tup ab,.int aa,.int i] rfl hk))) λ_=>cS (bB (.str kind) iA (RX _ Ic) rfl ?_);rw[Bo,rL];exact pi kind zq
 have hs:fG ab aa (row h kind aF)=((decide (h<=aa) && eD kind) && (o0 ab aa (dj (row h kind aF)) (aA (row h kind aF)) && zo ab aa (dj (row h kind aF)) (aA (row h kind aF)))):=rfl;cases hb:(decide (h<=aa) && eD kind) with
 |false=>
  rw[hs,hb];refine av rfl (bI (hc.trans ?_) (az rfl));rw[←Bool.not_and,hb];rfl
 |true=>
  rw[hs,hb];rw[vC]at hb;obtain⟨day,p,r',rfl⟩:=dp.slg hb.2;show _=some (D.bl (true && (o0 ab aa p day && zo ab aa p day)),false);rw[Bool.true_and];refine av rfl (aC (hc.trans (by rw[hb.1,hb.2];rfl)) (gd (.str p) (aJ [row h kind (.int day::.str p::r'),.str "by"] (aE Ic rfl) (bw (i:=1) (GX hb.2) rfl)) rfl (gd (.int day) (aJ [row h kind (.int day::.str p::r')] (aE (d:=row h kind (.int day::.str p::r')) (b:=false) (by simp[ha]) rfl) (j8 (.inr hb.2) rfl)) rfl (az ?_))));exact dL (b1:=false) (aJ [.tup ab,.int aa,.str p,.int day] (by simp) (zp ab hr hl aa p day)) λ_=>aJ [.tup ab,.int aa,.str p,.int day] (by simp) (Kn ab hr hl aa p day)
inductive Cd:Str->List D->Prop
 |root (o r:Str) (m f:Int):Cd ("root" : Str) [.str o,.int m,.int f,.str r]
 |named (d:Int) (o p:Str):Cd ("named" : Str) [.int d,.str o,.str p]
 |chosen (d:Int) (b o p:Str) (s:Int):Cd ("chosen" : Str) [.int d,.str b,.str o,.str p,.int s]
 |heir (d:Int) (b o p:Str):Cd ("heir" : Str) [.int d,.str b,.str o,.str p]
 |three (k:Str) (hk:k=("death" : Str)∨k=("lost" : Str)∨k=("found" : Str)) (d:Int) (p:Str):Cd k [.int d,.str p]
 |other (k:Str) (hk:k=("leave" : Str)∨k=("paper" : Str)∨k=("like" : Str)∨k=("copy" : Str)∨k=("call" : Str)) (d:Int) (b:Str) (r:List D) (hf:b9 r=true) (hp:r.all (aq 5)=true):Cd k (.int d::.str b::r)
theorem Cd.deed (h:Cd k r):DeedP k r:=by
 cases h with
 |root o rl m f=>exact⟨rfl,by simp,λh=>absurd h (by decide +kernel),λh=>absurd h (by decide +kernel)⟩
 |named d o p=>exact⟨rfl,by simp,λh=>absurd h (by decide +kernel),λh=>absurd h (by decide +kernel)⟩
 |chosen d b o p s=>exact⟨rfl,by simp,λh=>absurd h (by decide +kernel),λ_=>⟨d,b,_,rfl⟩⟩
 |heir d b o p=>exact⟨rfl,by simp,λh=>absurd h (by decide +kernel),λ_=>⟨d,b,_,rfl⟩⟩
 |three k hk d p=>exact⟨rfl,by simp,λ_=>⟨d,p,rfl⟩,λh=>by rcases hk with rfl|rfl|rfl<;>exact absurd h (by decide +kernel)⟩
 |other k hk d b r hf hp=>exact⟨by simp[hf],by simp only[List.all_cons,hp,aq,Bool.and_true],λh=>by rcases hk with rfl|rfl|rfl|rfl|rfl<;>exact absurd h (by decide +kernel),λ_=>⟨d,b,r,rfl⟩⟩
def xg (r:D):Prop:=∃h k aF,r=row h k aF/\Cd k aF
theorem xg.rp (h:xg r):nv r:=by obtain⟨a,k,aF,rfl,d⟩:=h;exact⟨a,k,aF,rfl,d.deed⟩
def bd (r:D):Bool:=decide (kindOf r=("root" : Str))
theorem Cd.day (h:Cd k r)(hk:k≠("root" : Str)):∃d q,r=.int d::q:=by
 cases h with
 |root=>exact absurd rfl hk
 |named d=>exact⟨d,_,rfl⟩
 |chosen d=>exact⟨d,_,rfl⟩
 |heir d=>exact⟨d,_,rfl⟩
 |three _ _ d=>exact⟨d,_,rfl⟩
 |other _ _ d=>exact⟨d,_,rfl⟩
theorem Cd.day_idx (h:Cd k r)(hk:k≠("root" : Str)):pC hW (.str k) (.str "day")=sF (.int 0):=by
 cases h with
 |root=>exact absurd rfl hk
 |named=>exact bq (by decide +kernel)
 |chosen=>exact bq (by decide +kernel)
 |heir=>exact bq (by decide +kernel)
 |three _ hh=>rcases hh with rfl|rfl|rfl<;>exact bq (by decide +kernel)
 |other _ hh=>rcases hh with rfl|rfl|rfl|rfl|rfl<;>exact bq (by decide +kernel)
theorem bW (e:f ρ=some (.str a,bb))(h:decide (a=b)=x):bo (f2 dJ f (fS b)) ρ=some x:=cS (iS (x:=.str a) (y:=.str b) (b1:=bb) (b2:=false) e rfl (by rw[←h];simp))
def t9 (r:D):D:=if bd r=true then .non else .int (aA r)
theorem jk (g:xg r):aM [r]=sF (.str (kindOf r)):=by
 obtain⟨h,k,aF,rfl,_⟩:=g;exact iZ h k aF
theorem rM (g:xg r):aP [r]=some (t9 r,false):=by
 obtain⟨h,k,aF,rfl,d⟩:=g;unfold t9;by_cases hk:k=("root" : Str)
 ·have:bd (row h k aF)=true:=decide_eq_true hk;rw[if_pos this];exact av rfl (bI (bW (a:=k) (bb:=false) (aJ [row h k aF] rfl (iZ _ _ _)) (decide_eq_true hk)) (az rfl))
 ·have:bd (row h k aF)=false:=decide_eq_false hk;rw[if_neg (by rw[this];decide)];obtain⟨dd,q,rfl⟩:=d.day hk;exact av rfl (aC (bW (a:=k) (bb:=false) (aJ [row h k (.int dd::q)] rfl (iZ _ _ _)) (decide_eq_false hk)) (az (aJ [row h k (.int dd::q),.str "day"] rfl (bw (i:=0) (d.day_idx hk) rfl))))
def gf (ab:List D):Prop:=ab.length<=60/\∀r∈ab,xg r
theorem gf.rp (g:gf ab):∀r∈ab,nv r:=λr hr=>(g.2 r hr).rp
theorem gf.le (g:gf ab):ab.length<=1000:=vR g.1 (by decide)
theorem bC (h:x∈ak ab aa):ab[x.2]? = some x.1:=by
 obtain⟨h1,_⟩:=vN h;exact List.mem_zipIdx_iff_getElem?.mp h1
theorem c8 (ab:List D)(aa:Int):(ak ab aa).length<=ab.length:=by
 have:=vM (λx:D×Nat=>decide (bc x.1<=aa)) ab.zipIdx;rw[List.length_zipIdx]at this;exact this
theorem dF (ab:List D)(aa:Int):((ak ab aa).map (·.2)).Nodup:=by
 have h1:(ab.zipIdx.map (·.2)).Nodup:=by rw[List.zipIdx_map_snd];exact List.nodup_range'
 exact List.Nodup.sublist (List.Sublist.map _ (List.filter_sublist)) h1
def dm (ab:List D)(aa:Int):List (D×Nat):=(ak ab aa).filter λx=>!bd x.1
def QW (ab:List D)(aa:Int):List (D×Nat):=dw (λx=>cB (kA x)) (dm ab aa)
theorem Bp (h:cB (kA a)=cB (kA b)):a.2=b.2:=by
 have h:[aA a.1,(a.2:Int)]=[aA b.1,(b.2:Int)]:=h;injection h with _ h;injection h with h;omega
theorem Ko (ha:a∈ak ab aa)(hb:b∈ak ab aa)(h:a.2=b.2):a=b:=by
 have h1:=bC ha;have h2:=bC hb;rw[h,h2]at h1;exact Prod.ext (vK h1).symm h
theorem pj (g:gf ab)(aa:Int):dZ [.tup ab,.int aa]=some (.lst ((QW ab aa).map λx=>.int x.2),true):=by
 have hl:=g.1;have RV:=c8 ab aa;have Ic:∀x∈ak ab aa,oE ab (x.2:Int)=some x.1/\xg x.1:=λx hx=>⟨cK (bC hx),g.2 _ (vL (bC hx))⟩;have hc:=gO (fi:=cj (fA cL (fV 0 (fV 1 aj)))) (nT:=1) (cap:=[0]) (tg:=dq 0) (c:=bo (f2 lQ (fA aP (af (f2 bP (ai 1) (ai 0)) aj)) (fC .non))) (fe:=ai 0) (ρ:=[sF (.tup ab),sF (.int aa),none]) (ak ab aa) (λx=>.int x.2) (λx=>!bd x.1) (λx=>.int x.2)
  (by
   show(fA cL (fV 0 (fV 1 aj)) _).bind _=_;rw[aJ [.tup ab,.int aa] rfl (kP ab g.rp g.le aa)];rfl) (by omega) λx hx=>by
   obtain⟨ha,gx⟩:=Ic x hx;refine⟨_,rfl,cS (bB (t9 x.1) .non (aJ [x.1] (by simp[cH,ha]) (rM gx)) rfl ?_),λ_=>⟨false,by simp[cH]⟩⟩;unfold t9;cases bd x.1<;>simp[DD]
 have KE:bL (cj (fA cL (fV 0 (fV 1 aj)))) 1 [0] (dq 0) (bo (f2 lQ (fA aP (af (f2 bP (ai 1) (ai 0)) aj)) (fC .non))) (ai 0) [sF (.tup ab),sF (.int aa),none]=some (.lst ((dm ab aa).map λx=>.int x.2),true):=hc;have vz:b9 ((dm ab aa).map λx=>D.int x.2)=true:=bV λd hd=>by obtain⟨x,_,rfl⟩:=vO hd;rfl
 have Iy:(dm ab aa).length<=60:=vR (vM _ _) (by omega);have lA:∀x∈dm ab aa,x∈ak ab aa/\bd x.1=false:=λx hx=>by
  obtain⟨h1,h2⟩:=vN hx;exact⟨h1,by simpa using h2⟩
 have hm:∀ρ:DL.Env,ρ[0]? = some (sF (.tup ab))->jO (qC [0] (fA fE (fV 1 (fV 0 aj))) ρ) ((dm ab aa).map λx=>.int x.2)=some ((dm ab aa).map λx=>.tup [.int (aA x.1),.int x.2]):=λρ h0=>
  iF (dm ab aa) λx hx=>by
   obtain⟨h1,h2⟩:=lA x hx;obtain⟨ha,gx⟩:=Ic x h1;have hd:=rM gx;unfold t9 at hd;rw[h2,if_neg (by decide)]at hd;have hr:fE [.tup ab,.int x.2]=sF (.tup [.int (aA x.1),.int x.2]):=av rfl (az (aJ [.int (aA x.1),.int x.2] (aE (d:=.int (aA x.1)) (b:=false) (aJ [x.1] (by simp[ha]) hd) rfl) (by simp[sizeLine])));show(fA fE _ _).map _=_;rw[aJ [.tup ab,.int x.2] (by simp[cH,h0]) hr];rfl
 have hk:dA ((dm ab aa).map λx=>D.tup [.int (aA x.1),.int x.2])=some ((dm ab aa).map kA):=g7 _ λx _=>rfl;have hz:((dm ab aa).map kA).zip ((dm ab aa).map λx=>D.int x.2)=(dm ab aa).map λx=>(kA x,D.int x.2):=by rw[List.zip_map']
 have EJ:((dm ab aa).map (·.2)).Nodup:=List.Nodup.sublist (List.Sublist.map _ (List.filter_sublist)) (dF ab aa);have jF:((dm ab aa).map kA).length<64/\dz ((dm ab aa).map kA)=true/\de ((dm ab aa).map kA)=true/\(((dm ab aa).map kA).map cB).Nodup:=by
  refine⟨by rw[vI];omega,pU _,?_,?_⟩
  ·unfold de;rw[Bool.or_eq_true];left;simp[List.all_eq_true,kA]
  ·rw[uP];exact List.Pairwise.map _ (λa b h e=>h (Bp e)) (List.pairwise_map.mp EJ)
 refine av rfl (cx KE vz (az ?_));show(qD (ai 2) _ _)=_;unfold qD;show((some (D.lst ((dm ab aa).map λx=>D.int x.2),false)).bind _)=_;simp only[vJ];rw[hm _ rfl];simp only[vJ];rw[hk];simp only[vJ];rw[if_pos jF];unfold jz;rw[hz];have key:((QW ab aa).map λx=>(kA x,D.int x.2))=dw (λp:List At×D=>cB p.1) ((dm ab aa).map λx=>(kA x,D.int x.2)):=by
  refine gL _ (λx hx y hy e=>?_) ((bv _ _).map _) ?_
  ·obtain⟨a,ha,rfl⟩:=vO hx;obtain⟨b,hb,rfl⟩:=vO hy;rw[Ko (lA a ha).1 (lA b hb).1 (Bp e)]
  ·exact List.pairwise_map.mpr (fz _ _)
 rw[←key,uP];rfl
structure Cl where
 o:Str
 p:Str
 s:Int
 u:Option Int
 n:Nat
noncomputable def uD:Option Int->D
 |none=>.non
 |some x=>.int x
def aU (c:Cl):D:=.tup [.str c.o,.str c.p,.int c.s,uD c.u,.int c.n]
theorem CG (u:Option Int):bg (uD u)=true:=by cases u<;>rfl
theorem nA (c:Cl):bg (aU c)=true:=by simp[aU,CG]
theorem j9 (cs:List Cl):b9 (cs.map aU)=true:=bV λd hd=>by obtain⟨c,_,rfl⟩:=vO hd;exact nA c
noncomputable def iG (c:Cl)(day:Int):Bool:=decide (c.s<=day) && (match c.u with|none=>true|some x=>decide (day<x))
theorem X8 (d e f g:D)(r:List D):oE (d::e::f::g::r) 3=some g:=by have:=kG (xs:=d::e::f::g::r) (j:=3) (by simp);simpa using this
theorem X9 (d e f g h:D)(r:List D):oE (d::e::f::g::h::r) 4=some h:=by have:=kG (xs:=d::e::f::g::h::r) (j:=4) (by simp);simpa using this
theorem QX (c:Cl):bP (aU c) (.int 0)=sF (.str c.o):=by simp[aU,Iv]
theorem Pe (c:Cl):bP (aU c) (.int 1)=sF (.str c.p):=by simp[aU,Iw]
theorem S7 (c:Cl):bP (aU c) (.int 2)=sF (.int c.s):=by simp[aU,VP]
theorem XA (c:Cl):bP (aU c) (.int 3)=some (uD c.u,false):=by simp[aU,X8]
theorem S8 (c:Cl):bP (aU c) (.int 4)=sF (.int c.n):=by simp[aU,X9]
theorem cu (ds:List D)(h:ds.length<=100):aS ds=sF (.tup ds):=if_pos (dY (by omega))
theorem fT (ds:List D)(h:ds.length<=100):bJ ds=some (.lst ds,true):=if_pos (dY (by omega))
theorem CH (s day:Int)(u:Option Int):j6 [.int day,.tup [.int s,uD u]]=sF (.bl (decide (s<=day) && (match u with|none=>true|some x=>decide (day<x)))):=by
 refine av rfl (az (dL (b1:=false) (by simp[Iv]) λ_=>?_));cases u with
 |none=>exact mT (p:=true) (q:=true) (b1:=false) (by simp[Iw,uD]) (by simp)
 |some x=>exact mT (p:=false) (q:=decide (day<x)) (b1:=false) (by simp[Iw,uD]) λ_=>by simp[Iw,uD]
theorem rN (c:Cl)(day:Int):cX [aU c,.int day]=sF (.bl (iG c day)) :=
 av rfl (az (aJ [.int day,.tup [.int c.s,uD c.u]] (cq rfl (cq (aJ [.int c.s,uD c.u] (aE (bB (aU c) (.int 2) rfl rfl (S7 c)) (aE (bB (aU c) (.int 3) rfl rfl (XA c)) rfl)) (cu _ (by simp))) rfl)) (CH c.s day c.u)))
theorem zu (c:Cl):dE [aU c]=sF (.tup [.int c.s,.int c.n]) :=
 av rfl (az (aJ [.int c.s,.int c.n] (aE (bB (aU c) (.int 2) rfl rfl (S7 c)) (aE (bB (aU c) (.int 4) rfl rfl (S8 c)) rfl)) (cu _ (by simp))))
theorem xh (c:Cl):gP [aU c]=sF (.tup [.str c.o,.int c.s,.int c.n]) :=
 av rfl (az (aJ [.str c.o,.int c.s,.int c.n] (aE (bB (aU c) (.int 0) rfl rfl (QX c)) (aE (bB (aU c) (.int 2) rfl rfl (S7 c)) (aE (bB (aU c) (.int 4) rfl rfl (S8 c)) rfl))) (cu _ (by simp))))
noncomputable def kS (c:Cl):List At:=[.i c.s,.i c.n]
def nB:Cl->List Cl->Cl
 |b,[]=>b
 |b,x::r=>if aZ (kS x) (kS b)=some true then nB x r else nB b r
def tE:Cl->List Cl->Cl
 |b,[]=>b
 |b,x::r=>if aZ (kS b) (kS x)=some true then tE x r else tE b r
theorem rO:∀(r:List Cl)(b:Cl),lE (kS b,aU b) (r.map λx=>(kS x,aU x))=aU (nB b r)
 |[],b=>rfl
 |x::r,b=>by
  rw[uY,lE,nB];split
  ·exact rO r x
  ·exact rO r b
theorem rP:∀(r:List Cl)(b:Cl),mN (kS b,aU b) (r.map λx=>(kS x,aU x))=aU (tE b r)
 |[],b=>rfl
 |x::r,b=>by
  rw[uY,mN,tE];split
  ·exact rP r x
  ·exact rP r b
theorem CI (cs:List Cl):dz (cs.map kS)=true:=by
 unfold dz;simp[List.all_eq_true,kS,Oe]
theorem rQ (ρ:DL.Env)(cs:List Cl):jO (t8 dE ρ) (cs.map aU)=some (cs.map λc=>.tup [.int c.s,.int c.n]):=iF cs λc _=>by
 show(dE [aU c]).map _=_;rw[zu];rfl
theorem pq (cs:List Cl):dA (cs.map λc=>D.tup [.int c.s,.int c.n])=some (cs.map kS):=g7 cs λc _=>rfl
theorem GY (e:f ρ=some (.lst ((b::r).map aU),bb)):uy f (t8 dE) ρ=some (aU (nB b r),false):=by
 unfold uy NS;rw[e,vJ];dsimp only;rw[rQ,vJ,pq,vJ,if_pos (CI _)];have:((b::r).map kS).zip ((b::r).map aU)=(kS b,aU b)::r.map λx=>(kS x,aU x):=by rw[List.zip_map'];rfl
 rw[this];show some (lE _ _,false)=_;rw[rO]
theorem Of (e:f ρ=some (.lst ((b::r).map aU),bb)):ux f (t8 dE) ρ=some (aU (tE b r),false):=by
 unfold ux NS;rw[e,vJ];dsimp only;rw[rQ,vJ,pq,vJ,if_pos (CI _)];have:((b::r).map kS).zip ((b::r).map aU)=(kS b,aU b)::r.map λx=>(kS x,aU x):=by rw[List.zip_map'];rfl
 rw[this];show some (mN _ _,false)=_;rw[rP]
def iH (rl:Str)(b:Cl)(r:List Cl):Cl:=if rl=("last" : Str)then tE b r else nB b r
theorem GZ (rl:Str)(b:Cl)(r:List Cl):lY [.lst ((b::r).map aU),.str rl]=sF (.str (iH rl b r).p):=by
 unfold iH;by_cases h:rl=("last" : Str)
 ·rw[if_pos h];exact av rfl (bI (bW (a:=rl) (bb:=false) rfl (decide_eq_true h)) (az (bB (aU (tE b r)) (.int 1) (Of (bb:=false) rfl) rfl (Pe _))))
 ·rw[if_neg h];exact av rfl (aC (bW (a:=rl) (bb:=false) rfl (decide_eq_false h)) (az (bB (aU (nB b r)) (.int 1) (GY (bb:=false) rfl) rfl (Pe _))))
theorem rR:∀(r:List Cl)(b:Cl),nB b r∈b::r
 |[],b=>by simp[nB]
 |x::r,b=>by
  rw[nB];split
  ·exact mZ _ (rR r x)
  ·rcases vP (rR r b)with h|h
   ·rw[h];exact mX
   ·exact mZ _ (mZ _ h)
theorem rS:∀(r:List Cl)(b:Cl),tE b r∈b::r
 |[],b=>by simp[tE]
 |x::r,b=>by
  rw[tE];split
  ·exact mZ _ (rS r x)
  ·rcases vP (rS r b)with h|h
   ·rw[h];exact mX
   ·exact mZ _ (mZ _ h)
theorem Eh (rl:Str)(b:Cl)(r:List Cl):iH rl b r∈b::r:=by
 unfold iH;split
 ·exact rS r b
 ·exact rR r b
noncomputable def Pf (cs:List Cl)(o:Str)(day:Int):List Cl:=cs.filter λc=>decide (c.o=o) && iG c day
def mh (cs:List Cl):List Str:=kE (iR (cs.map (·.p)))
def QY:List Cl->Nat
 |[]=>0
 |b::r=>(nB b r).n
def pv (rl:Str):List Cl->D
 |[]=>.tup [.str "none"]
 |b::r=>if 1<(mh (b::r)).length/\rl=("open" : Str)then .tup [.str "parted",.lst ((mh (b::r)).map .str)]
  else .tup [.str "one",.str (iH rl b r).p,.int (QY ((b::r).filter λc=>decide (c.p=(iH rl b r).p)))]
def ki (cs:List Cl)(o rl:Str)(day:Int):D:=pv rl (Pf cs o day)
theorem Kp:iR (z::zs)≠[]:=by
 have:∀(ss:List Str)(ts:List Str),z∈ts->z∈ss.foldl kn ts:=λss=>by
  induction ss with
  |nil=>intro ts h;exact h
  |cons a l ih=>intro ts h;exact ih _ (yB.mpr (.inl h))
 have h:=this zs (kn [] z) (yB.mpr (.inr rfl));intro e;unfold iR at e;rw[List.foldl_cons]at e;rw[e]at h;cases h
theorem kR:au [row h ("root" : Str) [.str o,.int m,.int f,.str rl],.str "office"]=sF (.str o):=bw (i:=0) (bq (by decide +kernel)) rfl
theorem Ei:au [row h ("root" : Str) [.str o,.int m,.int f,.str rl],.str "rule"]=sF (.str rl):=bw (i:=3) (bq (by decide +kernel)) rfl
theorem rT (zs:List Str):ga (zs.map .str)=some zs:=by
 induction zs with
 |nil=>rfl
 |cons z zs ih=>simp[ih]
theorem nD (cs:List Cl)(hl:cs.length<=60)(day:Int):eA [.lst (cs.map aU),row h ("root" : Str) [.str o,.int m,.int f,.str rl],.int day]=some (ki cs o rl day,false):=by
 let rt:D:=row h ("root" : Str) [.str o,.int m,.int f,.str rl];have h1:=gO (fi:=cj (ai 0)) (nT:=1) (cap:=[2,1]) (tg:=dq 0) (c:=dS (bo (f2 dJ (dQ 0 0) (fA au (fV 2 (af (fS ("office" : Str)) aj))))) (bo (fA cX (fV 0 (fV 1 aj))))) (fe:=ai 0)
  (ρ:=[sF (.lst (cs.map aU)),some (rt,false),sF (.int day),none,none,none,none]) cs aU (λc=>decide (c.o=o) && iG c day) aU (by simp) (by omega) λc hc=>by
   refine⟨_,rfl,dD (cS (bB (.str c.o) (.str o) (bB (aU c) (.int 0) (by simp[cH]) rfl (QX c)) (aJ [rt,.str "office"] (by simp[cH]) kR) (by simp))) λ_=>cS (aJ [aU c,.int day] (by simp[cH]) (rN c day)),λ_=>⟨false,by simp[cH]⟩⟩
 have SG:bL (cj (ai 0)) 1 [2,1] (dq 0) (dS (bo (f2 dJ (dQ 0 0) (fA au (fV 2 (af (fS ("office" : Str)) aj))))) (bo (fA cX (fV 0 (fV 1 aj))))) (ai 0) [sF (.lst (cs.map aU)),some (rt,false),sF (.int day),none,none,none,none]=some (.lst ((Pf cs o day).map aU),true):=h1;have Ta:(Pf cs o day).length<=60:=vR (vM _ _) hl;unfold ki;generalize Pf cs o day=al at SG Ta;have h2:∀ρ:DL.Env,ρ[3]? = some (some (.lst (al.map aU),true))->f1 gK (bL (cj (ai 3)) 1 [] (dq 0) fY (dQ 0 1)) ρ=some (.lst ((mh al).map .str),true):=λρ h3=>by
  have hc:=lG (fi:=cj (ai 3)) (nT:=1) (cap:=[]) (tg:=dq 0) (fe:=dQ 0 1) (ρ:=ρ) al aU (λc=>.str c.p) (by simp[h3]) (by omega) λc hc=>⟨_,rfl,false,bB (aU c) (.int 1) (by simp[cH]) rfl (Pe c)⟩;have e2:al.map (λc=>D.str c.p)=(al.map (·.p)).map .str:=by rw[uP];rfl
  rw[e2]at hc;unfold f1;rw[hc,vJ];show(ga ((al.map (·.p)).map .str)).bind _=_;rw[rT,vJ,if_pos (by rw[vI];omega)];rfl
 have lL:b9 ((mh al).map D.str)=true:=eE _;refine av rfl (cx (ds:=al.map aU) SG (j9 al) (cx (ds:=(mh al).map .str) (h2 _ rfl) lL ?_));cases al with
 |nil=>exact bI (cS (by simp[mh,iR,kE])) (az (aJ [.str "none"] rfl (cu _ (by simp))))
 |cons b r=>
  have p0:(mh (b::r)).length≠0:=by
   unfold mh;rw[(fw _).length_eq];intro e;exact Kp (List.length_eq_zero_iff.mp e)
  refine aC (cS (by simp[p0])) ?_;have Ie:∀ρ:DL.Env,ρ[1]? = some (some (rt,false))->fA au (fV 1 (af (fS ("rule" : Str)) aj)) ρ=sF (.str rl):=λρ q1=>aJ [rt,.str "rule"] (by simp[q1]) Ei;by_cases hp:1<(mh (b::r)).length/\rl=("open" : Str)
  ·have:pv rl (b::r)=.tup [.str "parted",.lst ((mh (b::r)).map .str)]:=by rw[pv,if_pos hp]
   rw[this];exact bI (dD (p:=true) (q:=true) (cS (by simp;omega)) λ_=>bW (bb:=false) (Ie _ rfl) (decide_eq_true hp.2)) (az (aJ [.str "parted",.lst ((mh (b::r)).map .str)] (by simp) (cu _ (by simp))))
  ·have:pv rl (b::r)=.tup [.str "one",.str (iH rl b r).p,.int (QY ((b::r).filter λc=>decide (c.p=(iH rl b r).p)))]:=by rw[pv,if_neg hp]
   rw[this];have jF:dS (bo (f2 Iq (fA gW (fV 4 aj)) (fI 1))) (bo (f2 dJ (fA au (fV 1 (af (fS ("rule" : Str)) aj))) (fS ("open" : Str)))) [sF (.lst (cs.map aU)),some (rt,false),sF (.int day),some (.lst ((b::r).map aU),true),some (.lst ((mh (b::r)).map .str),true),none,none]=some false:=by
    by_cases h5:1<(mh (b::r)).length
    ·exact dD (p:=true) (q:=false) (cS (by simp;omega)) λ_=>bW (bb:=false) (Ie _ rfl) (decide_eq_false λe=>hp ⟨h5,e⟩)
    ·exact dD (p:=false) (q:=false) (cS (by simp;omega)) (by simp)
   have lA:=Eh rl b r;let ch:=iH rl b r;have h6:=gO (fi:=cj (ai 3)) (nT:=1) (cap:=[5]) (tg:=dq 0) (c:=bo (f2 dJ (dQ 0 1) (ai 1))) (fe:=ai 0) (ρ:=[sF (.lst (cs.map aU)),some (rt,false),sF (.int day),some (.lst ((b::r).map aU),true),some (.lst ((mh (b::r)).map .str),true),sF (.str ch.p),none]) (b::r) aU (λc=>decide (c.p=ch.p)) aU (by simp) (by omega) λc hc=>⟨_,rfl,cS (bB (.str c.p) (.str ch.p) (bB (aU c) (.int 1) (by simp[cH]) rfl (Pe c)) (by simp[cH]) (by simp)),λ_=>⟨false,by simp[cH]⟩⟩;obtain⟨b2,r2,hf⟩:∃b2 r2,(b::r).filter (λc=>decide (c.p=ch.p))=b2::r2:=by
    cases hq:(b::r).filter (λc=>decide (c.p=ch.p)) with
    |nil=>
     have:=List.filter_eq_nil_iff.mp hq _ lA;simp[ch]at this
    |cons b2 r2=>exact⟨b2,r2,rfl⟩
   rw[hf]at h6 ⊢;refine aC jF (gd (.str ch.p) (aJ [.lst ((b::r).map aU),.str rl] (cq (by simp) (aE (Ie _ rfl) rfl)) (GZ rl b r)) rfl (gd (aU (nB b2 r2)) (GY (bb:=true) h6) (nA _) (az (aJ [.str "one",.str ch.p,.int (nB b2 r2).n] (cq rfl (cq rfl (aE (bB (aU (nB b2 r2)) (.int 4) rfl rfl (S8 _)) rfl))) (cu _ (by simp))))))
def LS:D->D
 |.tup ds=>.tup (tq ds none (some 2))
 |d=>d
def ja (cs:List Cl)(o rl p:Str)(day:Int):Bool:=bG (LS (ki cs o rl day)) (.tup [.str "one",.str p])
theorem Bq (n:Nat)(zs:List Str):(zs.map D.str).all (aq n)=true:=by
 induction zs with
 |nil=>rfl
 |cons a l ih=>simp
theorem Ej (rl:Str)(al:List Cl):∃ds,pv rl al=.tup ds/\ds.all (aq 5)=true:=by
 cases al with
 |nil=>exact⟨_,rfl,by simp⟩
 |cons b r=>
  rw[pv];split
  ·exact⟨_,rfl,by simp only[List.all_cons,List.all_nil,aq,Bool.and_true,Bool.true_and];exact Bq _ _⟩
  ·exact⟨_,rfl,by simp⟩
theorem Ha (h:ds.all (aq 5)=true):(tq ds lo hi).all (aq 5)=true:=by
 rw[List.all_eq_true]at h ⊢;exact λd hd=>h d (List.mem_of_mem_drop (List.mem_of_mem_take hd))
theorem vc (h:ds.all (aq 5)=true):aq 40 (.tup ds)=true:=jT 6 40 _ (by decide) (by simpa only[aq]using h)
theorem xi (cs:List Cl)(hl:cs.length<=60)(p:Str)(day:Int):cQ [.lst (cs.map aU),row h ("root" : Str) [.str o,.int m,.int f,.str rl],.str p,.int day]=sF (.bl (ja cs o rl p day)):=by
 have hb:=nD cs hl (h:=h) (o:=o) (rl:=rl) (m:=m) (f:=f) day;obtain⟨ds,e,hd⟩:=Ej rl (Pf cs o day);have e':ki cs o rl day=.tup ds:=e;refine av rfl (az (bB (LS (ki cs o rl day)) (.tup [.str "one",.str p]) ?_ (by simp[sizeLine]) ?_))
 ·have hc:=C0 (F:=eA) (fa:=fV 0 (fV 1 (fV 3 aj))) (ρ:=[sF (.lst (cs.map aU)),some (row h ("root" : Str) [.str o,.int m,.int f,.str rl],false),sF (.str p),sF (.int day)]) (ds:=[.lst (cs.map aU),row h ("root" : Str) [.str o,.int m,.int f,.str rl],.int day]) rfl hb;rw[e']at hc ⊢;show Sy (fA eA (fV 0 (fV 1 (fV 3 aj)))) FH (BQ (fI 2)) _=_;unfold Sy;rw[show(List.map (λd=>some (d,false)) [D.lst (cs.map aU),row h ("root" : Str) [.str o,.int m,.int f,.str rl],.str p,.int day]++List.replicate 0 none:DL.Env)=[sF (.lst (cs.map aU)),some (row h ("root" : Str) [.str o,.int m,.int f,.str rl],false),sF (.str p),sF (.int day)]from rfl,hc];rfl
 ·unfold ja dJ;rw[if_pos];rw[e'];exact⟨vc (Ha hd),vc (by simp)⟩
noncomputable def a7 (j:Nat):D->Str
 |.tup [_,.tup (_::aF)]=>match aF[j]? with
  |some (.str s)=>s
  |_=>("" : Str)
 |_=>("" : Str)
noncomputable def iI (j:Nat):D->Int
 |.tup [_,.tup (_::aF)]=>match aF[j]? with
  |some (.int s)=>s
  |_=>0
 |_=>0
theorem Cd.root_of (h:Cd ("root" : Str) r):∃o rl,∃m f:Int,r=[.str o,.int m,.int f,.str rl]:=by
 generalize hk:("root" : Str)=k at h;cases h with
 |root o rl m f=>exact⟨o,rl,m,f,rfl⟩
 |named=>exact absurd hk (by decide +kernel)
 |chosen=>exact absurd hk (by decide +kernel)
 |heir=>exact absurd hk (by decide +kernel)
 |three _ hh=>rcases hh with rfl|rfl|rfl<;>exact absurd hk (by decide +kernel)
 |other _ hh=>rcases hh with rfl|rfl|rfl|rfl|rfl<;>exact absurd hk (by decide +kernel)
theorem ve {κ α:Type}[DecidableEq κ]{ks:List κ}{k:κ}{x y:α}:∀ {xs:List α},y∈dP ks xs k x->y=x∨y∈xs:=by
 intro xs h;unfold dP at h;split at h
 ·rename_i SV;clear SV;induction ks generalizing xs with
  |nil=>simp at h
  |cons a ks ih=>
   cases xs with
   |nil=>simp at h
   |cons b xs=>
    rw[List.zipWith_cons_cons,List.mem_cons]at h;rcases h with h|h
    ·split at h
     ·exact .inl h
     ·exact .inr (by rw[h];exact mX)
    ·rcases ih h with h|h
     ·exact .inl h
     ·exact .inr (mZ _ h)
 ·rcases List.mem_append.mp h with h|h
  ·exact .inr h
  ·exact .inl (uT h)
theorem vg:∀(l:List (cA×D))(a:List cA×List D)(y:D),y∈(l.foldl qK a).2->y∈a.2∨∃p∈l,p.2=y
 |[],a,y,h=>.inl h
 |p::l,a,y,h=>by
  rw[List.foldl_cons]at h;rcases vg l _ y h with h|⟨q,hq,e⟩
  ·rcases ve (show y∈dP a.1 a.2 p.1 p.2 from h)with h|h
   ·exact .inr ⟨p,mX,h.symm⟩
   ·exact .inl h
  ·exact .inr ⟨q,mZ _ hq,e⟩
theorem vh {α:Type}(f:α->Str)(g:α->D):∀(l:List α),gs (l.map λx=>D.tup [.str (f x),g x])=some (l.map λx=>(.inr (f x),g x))
 |[]=>rfl
 |x::l=>by
  rw[uY,gs,vh f g l];rfl
theorem rV {κ:Type}[DecidableEq κ]:∀ {ks:List κ}{vs:List D}{k:κ}{v:D},cG ks vs k=some v->v∈vs
 |k'::ks,d::ds,k,v,h=>by
  unfold cG at h;split at h
  ·cases h;exact mX
  ·exact mZ _ (rV h)
 |[],_,_,_,h=>by simp[cG]at h
 |_::_,[],_,_,h=>by simp[cG]at h
noncomputable def nE (KL:List (D×Nat)):List (cA×D):=(KL.filter λx=>bd x.1).map λx=>(.inr (a7 0 x.1),x.1)
def CJ (KL:List (D×Nat))(o:Str):Option D:=cG (bX (nE KL)).1 (bX (nE KL)).2 (.inr o)
theorem rW (g:xg r)(h:bd r=true):∃a o rl,∃m f:Int,r=row a ("root" : Str) [.str o,.int m,.int f,.str rl]:=by
 obtain⟨a,k,aF,rfl,d⟩:=g;have hk:k=("root" : Str):=of_decide_eq_true h;subst hk;obtain⟨o,rl,m,f,rfl⟩:=d.root_of;exact⟨a,o,rl,m,f,rfl⟩
theorem dH (g:gf ab)(hx:x∈ak ab aa):oE ab (x.2:Int)=some x.1/\xg x.1:=⟨cK (bC hx),g.2 _ (vL (bC hx))⟩
theorem zv (g:gf ab)(h:CJ (ak ab aa) o=some v):∃a o2 rl,∃m f:Int,v=row a ("root" : Str) [.str o2,.int m,.int f,.str rl]:=by
 have hv:=rV h;rcases vg _ ([],[]) v hv with h|⟨p,hp,e⟩
 ·cases h
 ·obtain⟨x,hx,rfl⟩:=vO hp;obtain⟨h1,h2⟩:=vN hx;rw[←e];exact rW (dH g h1).2 h2
theorem rX (g:gf ab)(aa:Int):gF [.tup ab,.int aa]=sF (.dk (bX (nE (ak ab aa))).1 (bX (nE (ak ab aa))).2):=by
 have hl:=c8 ab aa;have Dj:=g.1;have h1:=lG (fi:=cj (fA cL (fV 0 (fV 1 aj)))) (nT:=1) (cap:=[0]) (tg:=dq 0) (fe:=f2 bP (ai 1) (ai 0)) (ρ:=[sF (.tup ab),sF (.int aa),none]) (ak ab aa) (λx=>.int x.2) Prod.fst
  (by
   show(fA cL (fV 0 (fV 1 aj)) _).bind _=_;rw[aJ [.tup ab,.int aa] rfl (kP ab g.rp g.le aa)];rfl) (by omega) λx hx=>by
   have ha:=(dH g hx).1;exact⟨_,rfl,false,by simp[cH,ha]⟩
 have hn:b9 ((ak ab aa).map Prod.fst)=true:=bV λd hd=>by
  obtain⟨x,hx,rfl⟩:=vO hd;exact(dH g hx).2.rp.flat
 have h2:=gO (fi:=cj (ai 2)) (nT:=1) (cap:=[]) (tg:=dq 0) (c:=bo (f2 dJ (fA aM (fV 0 aj)) (fS ("root" : Str)))) (fe:=fA aS (af (fA au (fV 0 (af (fS ("office" : Str)) aj))) (fV 0 aj)))
  (ρ:=[sF (.tup ab),sF (.int aa),some (.lst ((ak ab aa).map Prod.fst),true)]) (ak ab aa) Prod.fst (λx=>bd x.1) (λx=>.tup [.str (a7 0 x.1),x.1]) (by simp) (by omega) λx hx=>by
   have gr:=(dH g hx).2;refine⟨_,rfl,bW (a:=kindOf x.1) (bb:=false) (aJ [x.1] rfl (jk gr)) rfl,λhp=>⟨false,?_⟩⟩;obtain⟨a,o,rl,m,f,e⟩:=rW gr hp;refine aJ [.str (a7 0 x.1),x.1] (cq (aJ [x.1,.str "office"] rfl ?_) rfl) (cu _ (by simp));rw[e];exact kR
 refine av rfl (cx (ds:=(ak ab aa).map Prod.fst) h1 hn (az (aJ [.lst (((ak ab aa).filter λx:D×Nat=>bd x.1).map λx:D×Nat=>D.tup [.str (a7 0 x.1),x.1])] (aE h2 rfl) ?_)));rw[hV,vh (λx:D×Nat=>a7 0 x.1) Prod.fst];rfl
def pE:D×Nat->List (D×Nat)->D×Nat
 |b,[]=>b
 |b,x::r=>if aZ (kA x) (kA b)=some true then pE x r else pE b r
theorem xj:∀(r:List (D×Nat))(b:D×Nat),lE (kA b,.int b.2) (r.map λx=>(kA x,D.int x.2))=.int (pE b r).2
 |[],b=>rfl
 |x::r,b=>by
  rw[uY,lE,pE];split
  ·exact xj r x
  ·exact xj r b
def iJ (KL:List (D×Nat))(p:Str)(day:Int)(i:Nat):Bool:=match KL.filter (λx=>told eF p day x.1) with
 |[]=>false
 |b::r=>decide ((pE b r).2=i)
theorem Hb (g:gf ab)(aa:Int)(hx:x∈ak ab aa)(e:x.1=row a ("death" : Str) [.int d,.str p]):gu [.tup ab,.int aa,.int x.2]=sF (.bl (iJ (ak ab aa) p d x.2)):=by
 have ha:=(dH g hx).1;have gx:=(dH g hx).2;have ht:=xf ab g.rp g.le aa eF jU p d;have Ah:au [x.1,.str "person"]=sF (.str p):=by rw[e];exact bw (i:=1) (bq (by decide +kernel)) rfl
 have xF:aP [x.1]=sF (.int d):=by rw[e];exact j8 (.inl (by decide +kernel)) rfl
 have lA:x∈pD ab aa eF p d:=List.mem_filter.mpr ⟨hx,by rw[e];simp[told,row,eF,uM]⟩;have Zq:iJ (ak ab aa) p d x.2=match pD ab aa eF p d with|[]=>false|b::r=>decide ((pE b r).2=x.2):=rfl
 have key:∀y∈pD ab aa eF p d,∃h k dd,ab[y.2]? = some (row h k [.int dd,.str p])/\y.1=row h k [.int dd,.str p]/\da k=true:=λy hy=>by
  obtain⟨hg,Vi⟩:=CD hy;obtain⟨h,k,dd,e2,h3,_⟩:=rK jU (g.rp _ (vL hg)) Vi;exact⟨h,k,dd,by rw[hg,e2],e2,h3⟩
 rw[Zq];cases hs:pD ab aa eF p d with
 |nil=>rw[hs]at lA;cases lA
 |cons b r=>
  rw[hs]at ht key;have hm:∀ρ:DL.Env,ρ[0]? = some (sF (.tup ab))->jO (qC [0] (fA fE (fV 1 (fV 0 aj))) ρ) ((b::r).map λy=>.int y.2)=some ((b::r).map λy=>.tup [.int (aA y.1),.int y.2]):=λρ h0=>
   iF (b::r) λy hy=>by
    obtain⟨h,k,dd,hg,e2,h3⟩:=key y hy;show(fA fE _ _).map _=_;rw[aJ [.tup ab,.int y.2] (by simp[cH,h0]) (CF hg h3),e2];rfl
  have hk:dA ((b::r).map λy=>D.tup [.int (aA y.1),.int y.2])=some ((b::r).map kA):=g7 _ λy _=>rfl;have hz:((b::r).map kA).zip ((b::r).map λy=>D.int y.2)=(kA b,D.int b.2)::r.map λy=>(kA y,D.int y.2):=by rw[List.zip_map'];rfl
  have vz:b9 ((b::r).map λy=>D.int y.2)=true:=bV λd hd=>by obtain⟨y,_,rfl⟩:=vO hd;rfl
  refine av rfl (gd x.1 (by simp[ha]) gx.rp.flat (cx (ds:=(b::r).map λy=>.int y.2) (aJ [.tup ab,.int aa,.tup (eF.map .str),.str p,.int d] (cq rfl (cq rfl (cq (aJ [.str "death"] rfl (cu _ (by simp))) (aE (aJ [x.1,.str "person"] rfl Ah) (aE (aJ [x.1] rfl xF) rfl))))) ht) vz (az (bB (.int (pE b r).2) (.int x.2) ?_ rfl ?_))))
  ·unfold uy NS;show((some (D.lst ((b::r).map λy=>D.int y.2),false)).bind _)=_;rw[vJ];dsimp only;rw[hm _ rfl,vJ,hk,vJ,if_pos (pU _),hz];show some (lE _ _,false)=_;rw[xj]
  ·rw[C2];congr 3;apply decide_eq_decide.mpr;omega
abbrev KL:=List (D×Nat)
noncomputable def rY (K:KL)(p:Str)(day:Int):Bool:=(K.filter λx=>told eF p day x.1).isEmpty
def QZ (K:KL)(p:Str)(day:Int):Bool:=match LR (K.filter λx=>told nw p day x.1) with
 |none=>true
 |some x=>decide (kindOf x.1=("found" : Str))
def xl (K:KL)(r:D):Bool:=eD (kindOf r) && (rY K (dj r) (aA r) && QZ K (dj r) (aA r))
def Hd (r:D):Str:=if kindOf r=("named" : Str)then a7 1 r else a7 2 r
noncomputable def xm:List Str:=[("named" : Str),("chosen" : Str),("heir" : Str)]
def cR (K:KL)(so:List Cl)(x:D×Nat):Bool :=
 if kindOf x.1=("death" : Str)then iJ K (a7 1 x.1) (aA x.1) x.2
 else if kindOf x.1∈xm then match CJ K (Hd x.1) with
  |none=>false
  |some v=>if kindOf x.1=("named" : Str)then true else xl K x.1 && ja so (a7 0 v) (a7 3 v) (a7 1 x.1) (aA x.1)
 else false
theorem Kq (ab:List D)(aa:Int)(p:Str)(day:Int):o0 ab aa p day=rY (ak ab aa) p day:=rfl
theorem Kr (h:bc r<=aa):fG ab aa r=xl (ak ab aa) r:=by
 unfold fG xl;rw[decide_eq_true h,Bool.true_and];rfl
theorem Ek (g:gf ab)(aa:Int)(so:List Cl)(sV:so.length<=60)(hx:x∈ak ab aa)(P7:bd x.1=false):mW [.tup ab,.int aa,.lst (so.map aU),.int x.2]=sF (.bl (cR (ak ab aa) so x)):=by
 obtain⟨ha,gx⟩:=dH g hx;have hh:bc x.1<=aa:=of_decide_eq_true (vN hx).2;have hf:bg x.1=true:=gx.rp.flat;have hw:∀ρ:DL.Env,ρ[4]? = some (some (x.1,false))->fA aM (fV 4 aj) ρ=sF (.str (kindOf x.1)):=λρ h4=>aJ [x.1] (by simp[h4]) (jk gx);have Tc:∀ρ:DL.Env,ρ[4]? = some (some (x.1,false))->bo (f2 eS (fA aM (fV 4 aj)) (fA aS (af (fS ("named" : Str)) (af (fS ("chosen" : Str)) (af (fS ("heir" : Str)) aj))))) ρ=some (!decide (kindOf x.1∈xm)):=λρ h4=>
  cS (bB (.str (kindOf x.1)) (.tup (xm.map .str)) (hw ρ h4) (by simp[sizeLine,xm]) (pi _ _))
 by_cases hd:kindOf x.1=("death" : Str)
 ·obtain⟨a,k,aF,e,d⟩:=gx;have hk:k=("death" : Str):=by rw[e]at hd;exact hd
  subst hk;obtain⟨dd,p,rfl⟩:=d.deed.three (by decide +kernel);have hc:cR (ak ab aa) so x=iJ (ak ab aa) p dd x.2:=by
   unfold cR;rw[if_pos hd,e];rfl
  rw[hc];exact av rfl (gd x.1 (by simp[ha]) hf (bI (bW (bb:=false) (hw _ rfl) (decide_eq_true hd)) (az (aJ [.tup ab,.int aa,.int x.2] rfl (Hb g aa hx e)))))
 ·by_cases h3:kindOf x.1∈xm
  ·have OK:au [x.1,.str "office"]=sF (.str (Hd x.1)):=by
    obtain⟨a,k,aF,e,d⟩:=gx;rw[e]at h3 hd P7 ⊢;replace h3:k∈xm:=h3;clear hd P7;cases d with
    |root=>exact absurd h3 (by decide +kernel)
    |named d o p=>exact bw (i:=1) (bq (by decide +kernel)) rfl
    |chosen d b o p s=>exact bw (i:=2) (bq (by decide +kernel)) rfl
    |heir d b o p=>exact bw (i:=2) (bq (by decide +kernel)) rfl
    |three _ hk=>rcases hk with rfl|rfl|rfl<;>exact absurd h3 (by decide +kernel)
    |other _ hk=>rcases hk with rfl|rfl|rfl|rfl|rfl<;>exact absurd h3 (by decide +kernel)
   have e5:∀ρ:DL.Env,ρ[0]? = some (sF (.tup ab))->ρ[1]? = some (sF (.int aa))->ρ[4]? = some (some (x.1,false))->f2 G5 (fA gF (fV 0 (fV 1 aj))) (fA au (fV 4 (af (fS ("office" : Str)) aj))) ρ=some ((CJ (ak ab aa) (Hd x.1)).getD .non,false):=λρ q0 q1 q4=>
    bB (.dk (bX (nE (ak ab aa))).1 (bX (nE (ak ab aa))).2) (.str (Hd x.1)) (aJ [.tup ab,.int aa] (by simp[q0,q1]) (rX g aa)) (aJ [x.1,.str "office"] (by simp[q4]) OK) rfl
   cases hr:CJ (ak ab aa) (Hd x.1) with
   |none=>
    rw[hr]at e5;have hc:cR (ak ab aa) so x=false:=by unfold cR;rw[if_neg hd,if_pos h3,hr]
    rw[hc];exact av rfl (gd x.1 (by simp[ha]) hf (aC (bW (bb:=false) (hw _ rfl) (decide_eq_false hd)) (aC (by rw[Tc _ rfl,decide_eq_true h3];rfl) (gd .non (e5 _ rfl rfl rfl) rfl (bI (cS (bB .non .non rfl rfl (by simp))) (az rfl))))))
   |some v=>
    rw[hr]at e5;obtain⟨va,vo,vrl,vm,vf,ev⟩:=zv g hr;have WU:bg v=true:=by rw[ev];rfl
    have WV:EM v .non=sF (.bl false):=by rw[ev];simp[row]
    by_cases hn:kindOf x.1=("named" : Str)
    ·have hc:cR (ak ab aa) so x=true:=by unfold cR;rw[if_neg hd,if_pos h3,hr];dsimp only;rw[if_pos hn]
     rw[hc];exact av rfl (gd x.1 (by simp[ha]) hf (aC (bW (bb:=false) (hw _ rfl) (decide_eq_false hd)) (aC (by rw[Tc _ rfl,decide_eq_true h3];rfl) (gd v (e5 _ rfl rfl rfl) WU (aC (cS (bB v .non rfl rfl WV)) (bI (bW (bb:=false) (hw _ rfl) (decide_eq_true hn)) (az rfl)))))))
    ·have hc:cR (ak ab aa) so x=(xl (ak ab aa) x.1 && ja so (a7 0 v) (a7 3 v) (a7 1 x.1) (aA x.1)):=by unfold cR;rw[if_neg hd,if_pos h3,hr];dsimp only;rw[if_neg hn]
     have WW:au [x.1,.str "by"]=sF (.str (a7 1 x.1))/\aP [x.1]=sF (.int (aA x.1)):=by
      refine⟨?_,by rw[rM gx];unfold t9;rw[P7];rfl⟩;obtain⟨a,k,aF,e,d⟩:=gx;rw[e]at h3 hn ⊢;replace h3:k∈xm:=h3;cases d with
      |root=>exact absurd h3 (by decide +kernel)
      |named=>exact absurd rfl hn
      |chosen d b o p s=>exact bw (i:=1) (bq (by decide +kernel)) rfl
      |heir d b o p=>exact bw (i:=1) (bq (by decide +kernel)) rfl
      |three _ hk=>rcases hk with rfl|rfl|rfl<;>exact absurd h3 (by decide +kernel)
      |other _ hk=>rcases hk with rfl|rfl|rfl|rfl|rfl<;>exact absurd h3 (by decide +kernel)
     have hs:=nz ab g.rp g.le aa (bC hx);rw[Kr hh]at hs;have Ig:cQ [.lst (so.map aU),v,.str (a7 1 x.1),.int (aA x.1)]=sF (.bl (ja so (a7 0 v) (a7 3 v) (a7 1 x.1) (aA x.1))):=by
      rw[ev];exact xi so sV _ _
     rw[hc];refine av rfl (gd x.1 (by simp[ha]) hf (aC (bW (bb:=false) (hw _ rfl) (decide_eq_false hd)) (aC (by rw[Tc _ rfl,decide_eq_true h3];rfl) (gd v (e5 _ rfl rfl rfl) WU (aC (cS (bB v .non rfl rfl WV)) (aC (bW (bb:=false) (hw _ rfl) (decide_eq_false hn)) (az ?_)))))));exact dL (b1:=false) (aJ [.tup ab,.int aa,.int x.2] rfl hs) λ_=>aJ [.lst (so.map aU),v,.str (a7 1 x.1),.int (aA x.1)] (cq rfl (cq rfl (aE (aJ [x.1,.str "by"] rfl WW.1) (aE (aJ [x.1] rfl WW.2) rfl)))) Ig
  ·have hc:cR (ak ab aa) so x=false:=by unfold cR;rw[if_neg hd,if_neg h3]
   rw[hc];exact av rfl (gd x.1 (by simp[ha]) hf (aC (bW (bb:=false) (hw _ rfl) (decide_eq_false hd)) (bI (by rw[Tc _ rfl,decide_eq_false h3];rfl) (az rfl))))
def g8 (du:List Str)(p:Str)(day:Int)(c:Cl):List Cl :=
 if(!decide (c.o∈du) || (!decide (c.p=p) || !(iG c day || decide (day<c.s))))=true then [c]else if c.s<day then [⟨c.o,p,c.s,some day,c.n⟩]else []
noncomputable def cm (so:List Cl)(du:List Str)(p:Str)(day:Int):List Cl:=so.flatMap (g8 du p day)
theorem g9 (du:List Str)(p:Str)(day:Int):∀so:List Cl,(cm so du p day).length<=so.length
 |[]=>vT _
 |c::so=>by
  unfold cm;rw[uO,uZ,vE];have h1:=g9 du p day so;have h2:(g8 du p day c).length<=1:=by
   unfold g8;split
   ·simp
   ·split<;>simp
  unfold cm at h1;omega
theorem Br (k:Str)(ws:List Str):eS (.str k) (.lst (ws.map .str))=sF (.bl (!decide (k∈ws))):=by
 simp only[eS,gH,vJ,rH];rw[if_pos ⟨rfl,oy ws⟩]
theorem zw (so:List Cl)(sV:so.length<=60)(du:List Str)(p:Str)(day:Int):pR [.lst (so.map aU),.lst (du.map .str),.str p,.int day]=some (.lst ((cm so du p day).map aU),true):=by
 obtain⟨ρ',e,v5,rfl⟩:=i7 (tg:=dq 5) (g:=rh) (λj ρ=>∃v5:Option (D×Bool),ρ=[sF (.lst (so.map aU)),sF (.lst (du.map .str)),sF (.str p),sF (.int day),some (.lst ((cm (so.take j) du p day).map aU),true),v5]) (so.map aU)
  [sF (.lst (so.map aU)),sF (.lst (du.map .str)),sF (.str p),sF (.int day),some (.lst [],true),none] ⟨none,rfl⟩ (by
   rintro j d ρ hd ⟨v5,rfl⟩;rw[vA]at hd;obtain⟨c,hc,rfl⟩:=oY hd;have hj:j<so.length:=(vV hc).1;have et:cm (so.take (j+1)) du p day=cm (so.take j) du p day++g8 du p day c:=by
    unfold cm;rw[List.take_add_one,hc,Option.toList_some,List.flatMap_append,uO,List.flatMap_nil,uQ]
   have bK:(cm (so.take j) du p day).length<=60:=vR (g9 du p day _) (by rw[List.length_take];omega);let ρ1:DL.Env:=[sF (.lst (so.map aU)),sF (.lst (du.map .str)),sF (.str p),sF (.int day),some (.lst ((cm (so.take j) du p day).map aU),true),some (aU c,false)];have q0:dQ 5 0 ρ1=sF (.str c.o):=bB (aU c) (.int 0) rfl rfl (QX c);have q1:dQ 5 1 ρ1=sF (.str c.p):=bB (aU c) (.int 1) rfl rfl (Pe c);have q2:dQ 5 2 ρ1=sF (.int c.s):=bB (aU c) (.int 2) rfl rfl (S7 c);have q4:dQ 5 4 ρ1=sF (.int c.n):=bB (aU c) (.int 4) rfl rfl (S8 c);have jF:jq (bo (f2 eS (dQ 5 0) (ai 1))) (jq (bo (f2 tp (dQ 5 1) (ai 2))) (fJ (jq (bo (fA cX (fV 5 (fV 3 aj)))) (bo (f2 Iq (dQ 5 2) (ai 3)))))) ρ1=some (!decide (c.o∈du) || (!decide (c.p=p) || !(iG c day || decide (day<c.s)))) :=
    cW (cS (bB (.str c.o) (.lst (du.map .str)) q0 rfl (Br _ _))) λ_=>cW (cS (bB (.str c.p) (.str p) q1 rfl (by simp))) λ_=>cy (cW (cS (aJ [aU c,.int day] rfl (rN c day))) λ_=>cS (bB (.int c.s) (.int day) q2 rfl (by simp)))
   by_cases h1:(!decide (c.o∈du) || (!decide (c.p=p) || !(iG c day || decide (day<c.s))))=true
   ·have eo:g8 du p day c=[c]:=by unfold g8;rw[if_pos h1]
    rw[h1]at jF;refine⟨_,_,rfl,.inl (l7 jF (gX (ds:=(cm (so.take j) du p day).map aU) (d:=aU c) (b:=false) rfl rfl (nA c) (bD (by simp;omega)))),some (aU c,false),?_⟩;rw[et,eo,uW];rfl
   ·rw[Bool.not_eq_true]at h1;rw[h1]at jF;by_cases h2:c.s<day
    ·have eo:g8 du p day c=[⟨c.o,p,c.s,some day,c.n⟩]:=by unfold g8;rw[if_neg (by rw[h1];decide),if_pos h2]
     refine⟨_,_,rfl,.inl (mR jF (l7 (cS (bB (.int c.s) (.int day) q2 rfl (by simp[h2]))) (gX (ds:=(cm (so.take j) du p day).map aU) (d:=aU ⟨c.o,p,c.s,some day,c.n⟩) (b:=false) rfl (aJ [.str c.o,.str p,.int c.s,.int day,.int c.n] (aE q0 (cq rfl (aE q2 (cq rfl (aE q4 rfl))))) (cu _ (by simp))) (nA _) (bD (by simp;omega))))),some (aU c,false),?_⟩;rw[et,eo,uW];rfl
    ·have eo:g8 du p day c=[]:=by unfold g8;rw[if_neg (by rw[h1];decide),if_neg h2]
     refine⟨_,_,rfl,.inl (mR jF (mR (cS (bB (.int c.s) (.int day) q2 rfl (by simp;omega))) rfl)),some (aU c,false),?_⟩;rw[et,eo,uQ];rfl)
 have e':jc (dq 5) rh (so.map aU) [sF (.lst (so.map aU)),sF (.lst (du.map .str)),sF (.str p),sF (.int day),some (.lst [],true),none]=some (.nx [sF (.lst (so.map aU)),sF (.lst (du.map .str)),sF (.str p),sF (.int day),some (.lst ((cm so du p day).map aU),true),v5]):=by
  rw[e];have:so.take (so.map aU).length=so:=by rw[vI,List.take_length]
  rw[this]
 exact av rfl (cx (ds:=[]) (by simp[sizeLine]) rfl (dh (ln (ds:=so.map aU) (by simp[m6]) e') (mS rfl)))
theorem LU (ho:au [r,.str "office"]=sF (.str o))(hp:au [r,.str "person"]=sF (.str p))(s:Int)(n:Nat):gQ [r,.int s,.int n]=some (aU ⟨o,p,s,none,n⟩,false) :=
 av rfl (az (aJ [.str o,.str p,.int s,.non,.int n] (aE (aJ [r,.str "office"] rfl ho) (aE (aJ [r,.str "person"] rfl hp) rfl)) (cu _ (by simp))))
theorem El (so:List Cl)(sV:so.length<=60)(n:Nat):iB [.lst (so.map aU),row a ("chosen" : Str) [.int d,.str b,.str o,.str p,.int s],.int n]=some (.lst ((cm so [o] b s++[(⟨o,p,s,none,n⟩:Cl)]).map aU),true):=by
 let r:D:=row a ("chosen" : Str) [.int d,.str b,.str o,.str p,.int s];have ho:au [r,.str "office"]=sF (.str o):=bw (i:=2) (bq (by decide +kernel)) rfl;have hp:au [r,.str "person"]=sF (.str p):=bw (i:=3) (bq (by decide +kernel)) rfl;have hb:au [r,.str "by"]=sF (.str b):=bw (i:=1) (bq (by decide +kernel)) rfl;have hs:au [r,.str "since"]=sF (.int s):=bw (i:=4) (bq (by decide +kernel)) rfl;have hl:=g9 [o] b s so;refine av rfl (gd (.int s) (aJ [r,.str "since"] rfl hs) rfl (cx (ds:=(cm so [o] b s).map aU) (aJ [.lst (so.map aU),.lst ([o].map .str),.str b,.int s] (cq rfl (aE (b:=true) (aJ [.str o] (aE (aJ [r,.str "office"] rfl ho) rfl) (fT _ (by simp))) (aE (aJ [r,.str "by"] rfl hb) rfl))) (zw so sV [o] b s)) (j9 _) (az ?_)));refine iS (x:=.lst ((cm so [o] b s).map aU)) (y:=.lst [aU ⟨o,p,s,none,n⟩]) (b1:=false) (b2:=true) rfl (aJ [aU ⟨o,p,s,none,n⟩] (aE (aJ [r,.int s,.int n] rfl (LU ho hp s n)) rfl) (fT _ (by simp))) ?_;rw[uW];exact if_pos (dY (by rw[vI,List.length_singleton];omega))
noncomputable def zx (hk:List (List cA))(hv:List D)(o p:Str):Option Str:=match cG hk hv [.inr o,.inr p] with
 |some (.str h)=>some h
 |_=>none
def eG (K:KL)(hk:List (List cA))(hv:List D)(p:Str)(day:Int)(n:Nat)(o:Str):List Cl:=match zx hk hv o p with
 |some h=>if rY K h day=true then [⟨o,h,day,none,n⟩]else []
 |none=>[]
def dG (so:List Cl)(p:Str)(day:Int):List Str:=kE (iR ((so.filter λc=>decide (c.p=p) && iG c day).map (·.o)))
def rZ (K:KL)(so:List Cl)(hk:List (List cA))(hv:List D)(p:Str)(day:Int)(n:Nat):List Cl:=(dG so p day).flatMap (eG K hk hv p day n)
theorem ml (K:KL)(hk:List (List cA))(hv:List D)(p:Str)(day:Int)(n:Nat)(o:Str):(eG K hk hv p day n o).length<=1:=by
 unfold eG;split
 ·split<;>simp
 ·simp
theorem sd {α β:Type}(f:α->List β)(h:∀a,(f a).length<=1):∀l:List α,(l.flatMap f).length<=l.length
 |[]=>vT _
 |a::l=>by
  rw[uO,uZ,vE];have:=h a;have:=sd f h l;omega
theorem zy (so:List Cl)(p:Str)(day:Int):(dG so p day).length<=so.length:=by
 unfold dG;rw[(fw _).length_eq];refine vR (qo _) ?_;rw[vI];exact vM _ _
theorem xn (g:gf ab)(aa:Int)(so:List Cl)(sV:so.length<=60)(hk:List (List cA))(hv:List D)(Vj:∀v∈hv,∃s,v=.str s)(hx:x∈ak ab aa)(e:x.1=row a ("death" : Str) [.int d,.str p]):
  kI [.tup ab,.int aa,.lst (so.map aU),.dt hk hv,.int x.2]=some (.lst ((rZ (ak ab aa) so hk hv p d x.2).map aU),true):=by
 have ha:=(dH g hx).1;have Ah:au [x.1,.str "person"]=sF (.str p):=by rw[e];exact bw (i:=1) (bq (by decide +kernel)) rfl
 have xF:aP [x.1]=sF (.int d):=by rw[e];exact j8 (.inl (by decide +kernel)) rfl
 have WX:=zy so p d;have RY:∀(o:Str)(l:List Cl)(v9:Option (D×Bool)),l.length<=60->ia [sF (.tup ab),sF (.int aa),sF (.lst (so.map aU)),sF (.dt hk hv),sF (.int x.2),sF (.str p),sF (.int d),some (.lst (l.map aU),true),sF (.str o),v9]=some (.nx [sF (.tup ab),sF (.int aa),sF (.lst (so.map aU)),sF (.dt hk hv),sF (.int x.2),sF (.str p),sF (.int d),some (.lst ((l++eG (ak ab aa) hk hv p d x.2 o).map aU),true),sF (.str o),some ((cG hk hv [.inr o,.inr p]).getD .non,false)]):=λo l v9 hl=>by
  have eg:GG (ai 3) (fV 8 (fV 5 aj)) [sF (.tup ab),sF (.int aa),sF (.lst (so.map aU)),sF (.dt hk hv),sF (.int x.2),sF (.str p),sF (.int d),some (.lst (l.map aU),true),sF (.str o),v9]=some ((cG hk hv [.inr o,.inr p]).getD .non,false):=by
   simp[iV,sizeLine]
  cases hlk:cG hk hv [.inr o,.inr p] with
  |none=>
   rw[hlk]at eg;have ei:eG (ak ab aa) hk hv p d x.2 o=[]:=by unfold eG zx;rw[hlk]
   rw[ei,uQ];exact gd .non eg rfl (mR (dD (p:=false) (q:=false) (cS (by simp)) (by simp)) rfl)
  |some v=>
   obtain⟨h,rfl⟩:=Vj v (rV hlk);rw[hlk]at eg;have RZ:=zp ab g.rp g.le aa h d;rw[Kq]at RZ;have Sa:∀ρ:DL.Env,ρ[0]? = some (sF (.tup ab))->ρ[1]? = some (sF (.int aa))->ρ[6]? = some (sF (.int d))->ρ[9]? = some (sF (.str h))->dS (bo (f2 lQ (ai 9) (fC .non))) (bo (fA mU (fV 0 (fV 1 (fV 9 (fV 6 aj)))))) ρ=some (true && rY (ak ab aa) h d):=λρ q0 q1 q6 q9=>
    dD (cS (by simp[q9])) λ_=>cS (aJ [.tup ab,.int aa,.str h,.int d] (by simp[q0,q1,q6,q9]) RZ)
   cases Dj:rY (ak ab aa) h d with
   |false=>
    have ei:eG (ak ab aa) hk hv p d x.2 o=[]:=by unfold eG zx;rw[hlk];dsimp only;rw[Dj];rfl
    rw[ei,uQ];exact gd (.str h) eg rfl (mR (by rw[Sa _ rfl rfl rfl rfl,Dj];rfl) rfl)
   |true=>
    have ei:eG (ak ab aa) hk hv p d x.2 o=[⟨o,h,d,none,x.2⟩]:=by unfold eG zx;rw[hlk];dsimp only;rw[Dj];rfl
    rw[ei,uW];exact gd (.str h) eg rfl (l7 (by rw[Sa _ rfl rfl rfl rfl,Dj];rfl) (gX (ds:=l.map aU) (d:=aU ⟨o,h,d,none,x.2⟩) (b:=false) rfl (aJ [.str o,.str h,.int d,.non,.int x.2] rfl (cu _ (by simp))) rfl (bD (by simp;omega))))
 obtain⟨ρ',el,v8,v9,rfl⟩:=i7 (tg:=dq 8) (g:=ia) (λj ρ=>∃v8 v9:Option (D×Bool),ρ=[sF (.tup ab),sF (.int aa),sF (.lst (so.map aU)),sF (.dt hk hv),sF (.int x.2),sF (.str p),sF (.int d),some (.lst ((((dG so p d).take j).flatMap (eG (ak ab aa) hk hv p d x.2)).map aU),true),v8,v9]) ((dG so p d).map .str)
  [sF (.tup ab),sF (.int aa),sF (.lst (so.map aU)),sF (.dt hk hv),sF (.int x.2),sF (.str p),sF (.int d),some (.lst [],true),none,none] ⟨none,none,rfl⟩ (by
   rintro j dd ρ hd ⟨v8,v9,rfl⟩;rw[vA]at hd;obtain⟨o,ho,rfl⟩:=oY hd;have hl:(((dG so p d).take j).flatMap (eG (ak ab aa) hk hv p d x.2)).length<=60:=vR (sd _ (ml _ _ _ _ _ _) _) (by rw[List.length_take];omega);refine⟨_,_,rfl,.inl (RY o _ v9 hl),sF (.str o),some ((cG hk hv [.inr o,.inr p]).getD .non,false),?_⟩;rw[List.take_add_one,ho,Option.toList_some,List.flatMap_append,uO,List.flatMap_nil,uQ])
 have e':jc (dq 8) ia ((dG so p d).map .str) [sF (.tup ab),sF (.int aa),sF (.lst (so.map aU)),sF (.dt hk hv),sF (.int x.2),sF (.str p),sF (.int d),some (.lst [],true),none,none]=some (.nx [sF (.tup ab),sF (.int aa),sF (.lst (so.map aU)),sF (.dt hk hv),sF (.int x.2),sF (.str p),sF (.int d),some (.lst ((rZ (ak ab aa) so hk hv p d x.2).map aU),true),v8,v9]):=by
  rw[el];have:(dG so p d).take ((dG so p d).map D.str).length=dG so p d:=by rw[vI,List.take_length]
  rw[this];rfl
 have Ld:∀ρ:DL.Env,ρ[2]? = some (sF (.lst (so.map aU)))->ρ[5]? = some (sF (.str p))->ρ[6]? = some (sF (.int d))->cj (f1 gK (bL (cj (ai 2)) 1 [5,6] (dq 0) (dS (bo (f2 dJ (dQ 0 1) (ai 1))) (bo (fA cX (fV 0 (fV 2 aj))))) (dQ 0 0))) ρ=some ((dG so p d).map .str):=λρ q2 q5 q6=>by
  have hc:=gO (fi:=cj (ai 2)) (nT:=1) (cap:=[5,6]) (tg:=dq 0) (c:=dS (bo (f2 dJ (dQ 0 1) (ai 1))) (bo (fA cX (fV 0 (fV 2 aj))))) (fe:=dQ 0 0) (ρ:=ρ) so aU (λc=>decide (c.p=p) && iG c d) (λc=>.str c.o) (by simp[q2]) (by omega) λc hc=>
   ⟨_,rfl,dD (cS (bB (.str c.p) (.str p) (bB (aU c) (.int 1) (by simp[cH]) rfl (Pe c)) (by simp[cH,q5]) (by simp))) λ_=>cS (aJ [aU c,.int d] (by simp[cH,q6]) (rN c d)),λ_=>⟨false,bB (aU c) (.int 0) (by simp[cH]) rfl (QX c)⟩⟩
  have e2:(so.filter λc=>decide (c.p=p) && iG c d).map (λc=>D.str c.o)=((so.filter λc=>decide (c.p=p) && iG c d).map (·.o)).map .str:=by rw[uP];rfl
  rw[e2]at hc;show(f1 gK _ ρ).bind _=_;unfold f1;rw[hc,vJ];have Vk:((so.filter λc=>decide (c.p=p) && iG c d).map (·.o)).length<64:=by rw[vI];exact Nat.lt_of_le_of_lt (vM _ _) (by omega)
  show((ga _).bind _).bind _=_;rw[rT,vJ,if_pos Vk];rfl
 refine av rfl (gd (.str p) (aJ [x.1,.str "person"] (by simp[ha]) Ah) rfl (gd (.int d) (aJ [x.1] (by simp[ha]) xF) rfl (cx (ds:=[]) (by simp[sizeLine]) rfl (dh (ρ':=[sF (.tup ab),sF (.int aa),sF (.lst (so.map aU)),sF (.dt hk hv),sF (.int x.2),sF (.str p),sF (.int d),some (.lst ((rZ (ak ab aa) so hk hv p d x.2).map aU),true),v8,v9]) ?_ (mS rfl)))));exact ln (ρ:=[sF (.tup ab),sF (.int aa),sF (.lst (so.map aU)),sF (.dt hk hv),sF (.int x.2),sF (.str p),sF (.int d),some (.lst [],true),none,none]) (Ld _ rfl rfl rfl) e'
theorem He (g:gf ab)(aa:Int)(so:List Cl)(sV:so.length<=60)(hk:List (List cA))(hv:List D)(Vj:∀v∈hv,∃s,v=.str s)(hx:x∈ak ab aa)(e:x.1=row a ("death" : Str) [.int d,.str p]):
  jh [.tup ab,.int aa,.lst (so.map aU),.dt hk hv,.int x.2]=some (.lst ((cm so (so.map Cl.o) p d++rZ (ak ab aa) so hk hv p d x.2).map aU),true):=by
 have ha:=(dH g hx).1;have Ah:au [x.1,.str "person"]=sF (.str p):=by rw[e];exact bw (i:=1) (bq (by decide +kernel)) rfl
 have xF:aP [x.1]=sF (.int d):=by rw[e];exact j8 (.inl (by decide +kernel)) rfl
 have h1:=lG (fi:=cj (ai 2)) (nT:=1) (cap:=[]) (tg:=dq 0) (fe:=dQ 0 0) (ρ:=[sF (.tup ab),sF (.int aa),sF (.lst (so.map aU)),sF (.dt hk hv),sF (.int x.2),none,none]) so aU (λc=>.str c.o) (by simp) (by omega) λc hc=>⟨_,rfl,false,bB (aU c) (.int 0) (by simp[cH]) rfl (QX c)⟩;have e2:so.map (λc=>D.str c.o)=(so.map Cl.o).map .str:=by rw[uP];rfl
 rw[e2]at h1;have Mj:=g9 (so.map Cl.o) p d so;have Dj:(rZ (ak ab aa) so hk hv p d x.2).length<=60:=vR (sd _ (ml _ _ _ _ _ _) _) (vR (zy so p d) sV);refine av rfl (cx (ds:=(so.map Cl.o).map .str) h1 (eE _) (cx (ds:=(cm so (so.map Cl.o) p d).map aU) (aJ [.lst (so.map aU),.lst ((so.map Cl.o).map .str),.str p,.int d] (cq rfl (cq rfl (cq (aJ [x.1,.str "person"] (by simp[ha]) Ah) (cq (aJ [x.1] (by simp[ha]) xF) rfl)))) (zw so sV _ p d)) (j9 _) (az ?_)));refine iS (x:=.lst ((cm so (so.map Cl.o) p d).map aU)) (y:=.lst ((rZ (ak ab aa) so hk hv p d x.2).map aU)) (b1:=false) (b2:=true) rfl (aJ [.tup ab,.int aa,.lst (so.map aU),.dt hk hv,.int x.2] rfl (xn g aa so sV hk hv Vj hx e)) ?_;rw[uW];exact if_pos (dY (by rw[vI,vI];omega))
abbrev Pg:=List Cl×List (List cA)×List D
def eY (K:KL)(st:Pg)(x:D×Nat):Pg :=
 if cR K st.1 x=true then
  if kindOf x.1=("named" : Str)then (st.1++[⟨a7 1 x.1,a7 2 x.1,aA x.1,none,x.2⟩],st.2)
  else if kindOf x.1=("chosen" : Str)then (cm st.1 [a7 2 x.1] (a7 1 x.1) (iI 4 x.1)++[⟨a7 2 x.1,a7 3 x.1,iI 4 x.1,none,x.2⟩],st.2)
  else if kindOf x.1=("heir" : Str)then (st.1,dO st.2.1 [.inr (a7 2 x.1),.inr (a7 1 x.1)],dP st.2.1 st.2.2 [.inr (a7 2 x.1),.inr (a7 1 x.1)] (.str (a7 3 x.1)))
  else (cm st.1 (st.1.map Cl.o) (a7 1 x.1) (aA x.1)++rZ K st.1 st.2.1 st.2.2 (a7 1 x.1) (aA x.1) x.2,st.2)
 else st
def cC (K:KL):KL:=dw (λx=>cB (kA x)) (K.filter λx=>!bd x.1)
noncomputable def nF (K:KL)(l:KL):Pg:=l.foldl (eY K) ([],[],[])
noncomputable def kC (c:Cl):List At:=[.s c.o,.i c.s,.i c.n]
def br (K:KL):List Cl:=dw (λc=>cB (kC c)) (nF K (cC K)).1
noncomputable def Bt:List cA->Str
 |[_,.inr p]=>p
 |_=>("" : Str)
noncomputable def Ks (dd:List Str)(ks:List (List cA)):Nat:=(ks.filter λk=>decide (Bt k∉dd)).length
structure Ai (K l:KL)(dd:List Str)(st:Pg):Prop where
 len:st.1.length+Ks dd st.2.1<=l.length
 ded:∀q∈dd,∃y∈l,iJ K q (aA y.1) y.2=true
 nod:(st.1.map λc=>(c.o,c.n)).Nodup
 num:∀c∈st.1,c.n∈l.map (·.2)
 hs:∀v∈st.2.2,∃s,v=D.str s
 hk:st.2.1.length<=l.length
theorem CK (h:told ws p d r=true):aA r<=d/\∀d',aA r<=d'->told ws p d' r=true:=by
 unfold told at h;split at h
 ·rename_i k aF;rw[vC]at h;obtain⟨h1,h2⟩:=h;unfold uM at h2;split at h2
  ·rename_i dd q;rw[vC]at h2;refine⟨of_decide_eq_true h2.2,λd' hd=>?_⟩;unfold told;rw[vC];refine⟨h1,?_⟩;unfold uM;rw[vC];exact⟨h2.1,decide_eq_true hd⟩
  ·cases h2
 ·cases h
theorem se:∀(r:KL)(b:D×Nat),pE b r∈b::r/\∀y∈b::r,ge y (pE b r)=false
 |[],b=>⟨by simp[pE],λy hy=>by rw[uT hy];simp[pE,ge]⟩
 |x::r,b=>by
  rw[pE,Bn];by_cases h:ge x b=true
  ·rw[if_pos (by rw[h])];obtain⟨h1,h2⟩:=se r x;refine⟨mZ _ h1,λy hy=>?_⟩;rcases vP hy with rfl|hy
   ·have:=h2 x mX;unfold ge at *;simp at *;omega
   ·exact h2 y hy
  ·rw[if_neg (by simpa using h)];obtain⟨h1,h2⟩:=se r b;refine⟨?_,λy hy=>?_⟩
   ·rcases vP h1 with e|e
    ·rw[e];exact mX
    ·exact mZ _ (mZ _ e)
   ·rcases vP hy with rfl|hy
    ·exact h2 _ mX
    ·rcases vP hy with rfl|hy
     ·have:=h2 b mX;unfold ge at *;simp at *;omega
     ·exact h2 y (mZ _ hy)
theorem sf (h:iJ K p d i=true):∃m∈K,told eF p d m.1=true/\m.2=i/\∀y∈K,told eF p d y.1=true->ge y m=false:=by
 unfold iJ at h;split at h
 ·cases h
 ·rename_i b r e;obtain⟨h1,h2⟩:=se r b;rw[←e]at h1 h2;obtain⟨h3,h4⟩:=vN h1;exact⟨_,h3,h4,of_decide_eq_true h,λy hy ht=>h2 y (List.mem_filter.mpr ⟨hy,ht⟩)⟩
theorem Bu (h1:iJ K p d1 i1=true)(h2:iJ K p d2 i2=true):i1=i2:=by
 obtain⟨m1,k1,t1,e1,q1⟩:=sf h1;obtain⟨m2,k2,t2,e2,q2⟩:=sf h2;have a1:=CK t1;have a2:=CK t2;by_cases hd:d1<=d2
 ·have z1:=q2 m1 k1 (a1.2 d2 (by omega));have hm:aA m2.1<=aA m1.1:=by unfold ge at z1;simp at z1;omega
  have z2:=q1 m2 k2 (a2.2 d1 (by omega));unfold ge at z1 z2;simp at z1 z2;omega
 ·have z1:=q1 m2 k2 (a2.2 d1 (by omega));have hm:aA m1.1<=aA m2.1:=by unfold ge at z1;simp at z1;omega
  have z2:=q2 m1 k1 (a1.2 d2 (by omega));unfold ge at z1 z2;simp at z1 z2;omega
theorem z4 {κ:Type}[DecidableEq κ]:∀ {ks:List κ}{vs:List D}{k:κ}{v:D},cG ks vs k=some v->k∈ks
 |k'::ks,d::ds,k,v,h=>by
  unfold cG at h;split at h
  ·rename_i e;rw[←e];exact mX
  ·exact mZ _ (z4 h)
 |[],_,_,_,h=>by simp[cG]at h
 |_::_,[],_,_,h=>by simp[cG]at h
theorem sg (p:Str)(dd:List Str)(hp:p∉dd):∀ks:List (List cA),Ks dd ks=Ks (p::dd) ks+(ks.filter λk=>decide (Bt k=p)).length
 |[]=>rfl
 |k::ks=>by
  have ih:=sg p dd hp ks;unfold Ks at ih ⊢;by_cases e:Bt k=p
  ·rw[List.filter_cons_of_pos (by simpa [e]using hp),List.filter_cons_of_neg (by simp[e]),List.filter_cons_of_pos (by simp[e]),vE,vE];omega
  ·by_cases h:Bt k∈dd
   ·rw[List.filter_cons_of_neg (by simp[h]),List.filter_cons_of_neg (by simp[h]),List.filter_cons_of_neg (by simp[e])];exact ih
   ·rw[List.filter_cons_of_pos (by simp[h]),List.filter_cons_of_pos (by simp[h,e]),List.filter_cons_of_neg (by simp[e]),vE,vE];omega
theorem lu (du:List Str)(p:Str)(day:Int):∀so:List Cl,((cm so du p day).map λc=>(c.o,c.n)).Sublist (so.map λc=>(c.o,c.n))
 |[]=>List.Sublist.slnil
 |c::so=>by
  have ih:=lu du p day so;unfold cm at ih ⊢;rw[uO,uW,uY];have:((g8 du p day c).map λc=>(c.o,c.n))=[(c.o,c.n)]∨((g8 du p day c).map λc=>(c.o,c.n))=[]:=by
   unfold g8;split
   ·exact .inl rfl
   ·split
    ·exact .inl rfl
    ·exact .inr rfl
  rcases this with h|h
  ·rw[h];exact ih.cons₂ _
  ·rw[h];exact ih.cons _
theorem lw (h:c∈cm so du p day):∃c'∈so,c'.o=c.o/\c'.n=c.n:=by
 have:=(lu du p day so).subset (uS ⟨c,h,rfl⟩);obtain⟨c',h1,h2⟩:=vO this;injection h2 with h3 h4;exact⟨c',h1,h3,h4⟩
theorem jA:∀(ss ts:List Str),ts.Nodup->(ss.foldl kn ts).Nodup
 |[],_,h=>h
 |s::ss,ts,h=>jA ss _ (AS h s)
theorem si (so:List Cl)(p:Str)(day:Int):(dG so p day).Nodup:=(fw _).nodup_iff.mpr (jA _ [] List.nodup_nil)
theorem z5 (K:KL)(hk:List (List cA))(hv:List D)(p:Str)(day:Int)(n:Nat):∀os:List Str,((os.flatMap (eG K hk hv p day n)).map λc=>(c.o,c.n)).Sublist (os.map λo=>(o,n))
 |[]=>List.Sublist.slnil
 |o::os=>by
  have ih:=z5 K hk hv p day n os;rw[uO,uW,uY];have:((eG K hk hv p day n o).map λc=>(c.o,c.n))=[(o,n)]∨((eG K hk hv p day n o).map λc=>(c.o,c.n))=[]:=by
   unfold eG;split
   ·split
    ·exact .inl rfl
    ·exact .inr rfl
   ·exact .inr rfl
  rcases this with h|h
  ·rw[h];exact ih.cons₂ _
  ·rw[h];exact ih.cons _
theorem vi {α:Type}[DecidableEq α]:∀(l m:List α),l.Nodup->(∀x∈l,x∈m)->l.length<=m.length
 |[],_,_,_=>uN _
 |x::l,m,h,s=>by
  rw[List.nodup_cons]at h;have hx:=s x mX;have:=vi l (m.erase x) h.2 λy hy=>(List.mem_erase_of_ne (a:=y) (b:=x) (λe=>h.1 (by rw[←e];exact hy))).mpr (s y (mZ _ hy));rw[List.length_erase_of_mem hx]at this;have:0<m.length:=List.length_pos_of_mem hx;rw[vE];omega
theorem vj {α β:Type}(f:α->List β)(q:α->Bool)(h:∀a,(f a).length<=1/\(q a=false->f a=[])):∀l:List α,(l.flatMap f).length<=(l.filter q).length
 |[]=>vT _
 |a::l=>by
  have ih:=vj f q h l;rw[uO,uZ];cases hq:q a with
  |true=>rw[List.filter_cons_of_pos hq,vE];have:=(h a).1;omega
  |false=>rw[List.filter_cons_of_neg (by rw[hq];decide),(h a).2 hq];simpa using ih
theorem Kt (K:KL)(so:List Cl)(hk:List (List cA))(hv:List D)(p:Str)(day:Int)(n:Nat):(rZ K so hk hv p day n).length<=(hk.filter λk=>decide (Bt k=p)).length:=by
 refine vR (vj _ (λo=>(cG hk hv [.inr o,.inr p]).isSome) (λo=>⟨ml _ _ _ _ _ _ _,λh=>?_⟩) _) ?_
 ·have hl:cG hk hv [.inr o,.inr p]=none:=by simpa using h
  unfold eG zx;rw[hl]
 ·have EJ:(((dG so p day).filter λo=>(cG hk hv [.inr o,.inr p]).isSome).map λo=>([.inr o,.inr p]:List cA)).Nodup:=List.Pairwise.map _ (λa b hab e=>hab (by injection e with e _;injection e)) ((si so p day).filter _);have:=vi _ (hk.filter λk=>decide (Bt k=p)) EJ λk hm=>by
   obtain⟨o,ho,rfl⟩:=vO hm;obtain⟨v,hv⟩:=uU (vN ho).2;exact List.mem_filter.mpr ⟨z4 hv,decide_eq_true rfl⟩
  rwa [vI]at this
theorem Ai.step {K l:KL}{dd:List Str}{st:Pg}(h:Ai K l dd st){x:D×Nat}(hx:x.2∉l.map (·.2)):∃KQ,Ai K (l++[x]) KQ (eY K st x):=by
 have up:∀ {n:Nat},n∈l.map (·.2)->n∈(l++[x]).map (·.2):=λh=>by rw[uW];exact List.mem_append_left _ h
 have me:x.2∈(l++[x]).map (·.2):=by simp
 have ll:(l++[x]).length=l.length+1:=by simp
 have Sb:∀q∈dd,∃y∈l++[x],iJ K q (aA y.1) y.2=true:=λq hq=>by
  obtain⟨y,h1,h2⟩:=h.ded q hq;exact⟨y,List.mem_append_left _ h1,h2⟩
 have wk:Ai K (l++[x]) dd st:=⟨by have:=h.len;omega,Sb,h.nod,λc hc=>up (h.num c hc),h.hs,by have:=h.hk;omega⟩;have bK:=h.len;unfold eY;split
 ·rename_i hcount;split
  ·refine⟨dd,by simp;omega,Sb,?_,λc hc=>?_,h.hs,by rw[ll];exact Nat.le_succ_of_le h.hk⟩
   ·rw[uW,List.nodup_append];refine⟨h.nod,by simp,λa ha b hb e=>?_⟩;obtain⟨c,hc,rfl⟩:=vO ha;simp at hb;subst hb;injection e with _ e2;exact hx (e2 ▸ h.num c hc)
   ·rcases List.mem_append.mp hc with hc|hc
    ·exact up (h.num c hc)
    ·rw[uT hc];exact me
  ·split
   ·have hl:=g9 [a7 2 x.1] (a7 1 x.1) (iI 4 x.1) st.1;refine⟨dd,by simp;omega,Sb,?_,λc hc=>?_,h.hs,by rw[ll];exact Nat.le_succ_of_le h.hk⟩
    ·rw[uW,List.nodup_append];refine⟨h.nod.sublist (lu _ _ _ _),by simp,λa ha b hb e=>?_⟩;obtain⟨c,hc,rfl⟩:=vO ha;simp at hb;subst hb;injection e with _ e2;obtain⟨c',h1,_,h3⟩:=lw hc;exact hx (e2 ▸ h3 ▸ h.num c' h1)
    ·rcases List.mem_append.mp hc with hc|hc
     ·obtain⟨c',h1,_,h3⟩:=lw hc;rw[←h3];exact up (h.num c' h1)
     ·rw[uT hc];exact me
   ·split
    ·have hp:∀k:List cA,Ks dd (dO st.2.1 k)<=Ks dd st.2.1+1/\(dO st.2.1 k).length<=st.2.1.length+1:=λk=>by
      unfold dO;split
      ·omega
      ·have:([k].filter λk=>decide (Bt k∉dd)).length<=1:=vM _ _;unfold Ks;rw[List.filter_append,uZ,uZ,List.length_singleton];omega
     refine⟨dd,?_,Sb,wk.nod,wk.num,λv hv=>?_,?_⟩
     ·have:=(hp [.inr (a7 2 x.1),.inr (a7 1 x.1)]).1;rw[ll];show st.1.length+Ks dd (dO st.2.1 [.inr (a7 2 x.1),.inr (a7 1 x.1)])<=_;omega
     ·rcases ve hv with hv|hv
      ·exact⟨_,hv⟩
      ·exact h.hs v hv
     ·have:=(hp [.inr (a7 2 x.1),.inr (a7 1 x.1)]).2;have:=h.hk;rw[ll];show(dO _ _).length<=_;omega
    ·rename_i n1 n2 n3;have hd:kindOf x.1=("death" : Str):=by
      unfold cR at hcount;by_cases hd:kindOf x.1=("death" : Str)
      ·exact hd
      ·rw[if_neg hd,if_neg (by simp[xm,n1,n2,n3])]at hcount;cases hcount
     have hf:iJ K (a7 1 x.1) (aA x.1) x.2=true:=by unfold cR at hcount;rwa [if_pos hd]at hcount
     have Pu:a7 1 x.1∉dd:=λhm=>by
      obtain⟨y,h1,h2⟩:=h.ded _ hm;exact hx (by rw[←Bu h2 hf];exact uS ⟨y,h1,rfl⟩)
     have hl:=g9 (st.1.map Cl.o) (a7 1 x.1) (aA x.1) st.1;have hio:=Kt K st.1 st.2.1 st.2.2 (a7 1 x.1) (aA x.1) x.2;have UT:=sg (a7 1 x.1) dd Pu st.2.1;have WY:=z5 K st.2.1 st.2.2 (a7 1 x.1) (aA x.1) x.2 (dG st.1 (a7 1 x.1) (aA x.1));have WZ:∀c∈rZ K st.1 st.2.1 st.2.2 (a7 1 x.1) (aA x.1) x.2,c.o∈dG st.1 (a7 1 x.1) (aA x.1)/\c.n=x.2:=λc hc=>by
      have:=WY.subset (uS ⟨c,hc,rfl⟩);obtain⟨o,h1,h2⟩:=vO this;injection h2 with h3 h4;exact⟨h3 ▸ h1,h4.symm⟩
     refine⟨a7 1 x.1::dd,?_,λq hq=>?_,?_,λc hc=>?_,h.hs,by rw[ll];exact Nat.le_succ_of_le h.hk⟩
     ·rw[ll];show(cm st.1 (st.1.map Cl.o) (a7 1 x.1) (aA x.1)++rZ K st.1 st.2.1 st.2.2 (a7 1 x.1) (aA x.1) x.2).length+Ks _ st.2.1<=_;rw[uZ];omega
     ·rcases vP hq with rfl|hq
      ·exact⟨x,by simp,hf⟩
      ·exact Sb q hq
     ·rw[uW,List.nodup_append];refine⟨h.nod.sublist (lu _ _ _ _),List.Nodup.sublist WY (List.Pairwise.map _ (λa b hab e=>hab (by injection e)) (si _ _ _)),λa ha b hb e=>?_⟩;obtain⟨c,hc,rfl⟩:=vO ha;obtain⟨c2,vw,rfl⟩:=vO hb;injection e with _ e2;obtain⟨c',h1,_,h3⟩:=lw hc;exact hx ((WZ c2 vw).2 ▸ e2 ▸ h3 ▸ h.num c' h1)
     ·rcases List.mem_append.mp hc with hc|hc
      ·obtain⟨c',h1,_,h3⟩:=lw hc;rw[←h3];exact up (h.num c' h1)
      ·rw[(WZ c hc).2];exact me
 ·exact⟨dd,wk⟩
theorem Ku (e:ρ[i]? = some (some (.dt ks vs,true)))(ev:fv ρ=some (d,b))(ek:fk ρ=some kd)(hk:iV kd=some kk)(hf:bg d=true)(h1:ks.length<=1000)(h2:kd.length<=1000):u5 i fk fv ρ=some (.nx (ρ.set i (some (.dt (dO ks kk) (dP ks vs kk d),true)))):=by
 unfold u5;rw[e];dsimp only;rw[ev,vJ,ek,vJ,hk,vJ,if_pos ⟨hf,bD (by omega),dY (by omega)⟩]
theorem Ua (a b:Cl):(aZ (kC a) (kC b)).isSome=true:=by
 unfold kC;rw[aZ];split
 ·rw[aZ];split
  ·rw[aZ];split
   ·rw[aZ];rfl
   ·rfl
  ·rfl
 ·rfl
theorem CL (cs:List Cl):dz (cs.map kC)=true:=by
 unfold dz;simp[List.all_eq_true,Ua]
theorem o3 {α β:Type}(f:α->β):∀ {l:List α},(l.map f).Nodup->∀ {a b:α},a∈l->b∈l->f a=f b->a=b
 |[],_,_,_,ha,_,_=>by cases ha
 |c::l,h,a,b,ha,hb,e=>by
  rw[uY,List.nodup_cons]at h;rcases vP ha with ea|ha1
  ·rcases vP hb with eb|hb1
   ·rw[ea,eb]
   ·exact absurd (uS ⟨b,hb1,by rw[←e,ea]⟩) h.1
  ·rcases vP hb with eb|hb1
   ·exact absurd (uS ⟨a,ha1,by rw[e,eb]⟩) h.1
   ·exact o3 f h.2 ha1 hb1 e
theorem Hf {cs:List Cl}{a b:Cl}(ha:a∈cs)(hb:b∈cs)(e:cB (kC a)=cB (kC b)):(a.o,a.n)=(b.o,b.n):=by
 have h:=lh (CL cs) (uS ⟨a,ha,rfl⟩) (uS ⟨b,hb,rfl⟩) e;unfold kC at h;injection h with h1 h2;injection h1 with h1;injection h2 with _ h3;injection h3 with h3 _;injection h3 with h3;rw[h1,show a.n=b.n by omega]
theorem Kv (g:gf ab)(aa:Int)(h:Ai (ak ab aa) l dd st)(hj:l.length<=60)(hx:x∈ak ab aa)(P7:bd x.1=false)(v5:Option (D×Bool)):
  ∃w5,(lq [sF (.tup ab),sF (.int aa),some (.lst (st.1.map aU),true),some (.dt st.2.1 st.2.2,true),sF (.int x.2),v5]=some (.nx [sF (.tup ab),sF (.int aa),some (.lst ((eY (ak ab aa) st x).1.map aU),true),some (.dt (eY (ak ab aa) st x).2.1 (eY (ak ab aa) st x).2.2,true),sF (.int x.2),w5])
   ∨ lq [sF (.tup ab),sF (.int aa),some (.lst (st.1.map aU),true),some (.dt st.2.1 st.2.2,true),sF (.int x.2),v5]=some (.ct [sF (.tup ab),sF (.int aa),some (.lst ((eY (ak ab aa) st x).1.map aU),true),some (.dt (eY (ak ab aa) st x).2.1 (eY (ak ab aa) st x).2.2,true),sF (.int x.2),w5])):=by
 obtain⟨ha,gx⟩:=dH g hx;have sV:st.1.length<=60:=by have:=h.len;omega
 have hf:bg x.1=true:=gx.rp.flat;have ec:=Ek g aa st.1 sV hx P7;have Dn:fJ (bo (fA mW (fV 0 (fV 1 (fV 2 (fV 4 aj)))))) [sF (.tup ab),sF (.int aa),some (.lst (st.1.map aU),true),some (.dt st.2.1 st.2.2,true),sF (.int x.2),some (x.1,false)]=some (!cR (ak ab aa) st.1 x) :=
  cy (cS (aJ [.tup ab,.int aa,.lst (st.1.map aU),.int x.2] (by simp) ec))
 have hw:fA aM (fV 5 aj) [sF (.tup ab),sF (.int aa),some (.lst (st.1.map aU),true),some (.dt st.2.1 st.2.2,true),sF (.int x.2),some (x.1,false)]=sF (.str (kindOf x.1)):=aJ [x.1] rfl (jk gx);refine⟨some (x.1,false),?_⟩;cases hc:cR (ak ab aa) st.1 x with
 |false=>
  rw[hc]at Dn;have es:eY (ak ab aa) st x=st:=by unfold eY;rw[hc];rfl
  rw[es];exact .inr (gd x.1 (by simp[ha]) hf (TZ (l7 Dn rfl)))
 |true=>
  rw[hc]at Dn;left;refine gd x.1 (by simp[ha]) hf (dh (mR Dn rfl) ?_);by_cases hn:kindOf x.1=("named" : Str)
  ·have es:eY (ak ab aa) st x=(st.1++[⟨a7 1 x.1,a7 2 x.1,aA x.1,none,x.2⟩],st.2):=by unfold eY;rw[hc,if_pos rfl,if_pos hn]
   rw[es];refine l7 (bW (bb:=false) hw (decide_eq_true hn)) ?_;have P8:au [x.1,.str "office"]=sF (.str (a7 1 x.1))/\au [x.1,.str "person"]=sF (.str (a7 2 x.1)):=by
    obtain⟨a,k,aF,e,d⟩:=gx;rw[e]at hn ⊢;replace hn:k=("named" : Str):=hn;cases d with
    |named d o p=>exact⟨bw (i:=1) (bq (by decide +kernel)) rfl,bw (i:=2) (bq (by decide +kernel)) rfl⟩
    |root=>exact absurd hn (by decide +kernel)
    |chosen=>exact absurd hn (by decide +kernel)
    |heir=>exact absurd hn (by decide +kernel)
    |three _ hk=>rcases hk with rfl|rfl|rfl<;>exact absurd hn (by decide +kernel)
    |other _ hk=>rcases hk with rfl|rfl|rfl|rfl|rfl<;>exact absurd hn (by decide +kernel)
   have xF:aP [x.1]=sF (.int (aA x.1)):=by rw[rM gx];unfold t9;rw[P7];rfl
   have e2:f2 bY (ai 2) (fA bJ (af (fA gQ (fV 5 (af (fA aP (fV 5 aj)) (fV 4 aj)))) aj)) [sF (.tup ab),sF (.int aa),some (.lst (st.1.map aU),true),some (.dt st.2.1 st.2.2,true),sF (.int x.2),some (x.1,false)]=some (.lst (st.1.map aU++[aU ⟨a7 1 x.1,a7 2 x.1,aA x.1,none,x.2⟩]),true):=by
    refine iS (x:=.lst (st.1.map aU)) (y:=.lst [aU ⟨a7 1 x.1,a7 2 x.1,aA x.1,none,x.2⟩]) (b1:=false) (b2:=true) rfl ?_ (if_pos (dY (by rw[vI,List.length_singleton];omega)));exact aJ [aU ⟨a7 1 x.1,a7 2 x.1,aA x.1,none,x.2⟩] (aE (aJ [x.1,.int (aA x.1),.int x.2] (cq rfl (cq (aJ [x.1] rfl xF) rfl)) (LU P8.1 P8.2 _ _)) rfl) (fT _ (by simp))
   have:=pP (i:=2) e2 (by have hq:=j9 (st.1++[(⟨a7 1 x.1,a7 2 x.1,aA x.1,none,x.2⟩:Cl)]);rwa [uW]at hq);rw[uW];exact this
  ·refine mR (bW (bb:=false) hw (decide_eq_false hn)) ?_;by_cases pF:kindOf x.1=("chosen" : Str)
   ·have es:eY (ak ab aa) st x=(cm st.1 [a7 2 x.1] (a7 1 x.1) (iI 4 x.1)++[⟨a7 2 x.1,a7 3 x.1,iI 4 x.1,none,x.2⟩],st.2):=by unfold eY;rw[hc,if_pos rfl,if_neg hn,if_pos pF]
    rw[es];refine l7 (bW (bb:=false) hw (decide_eq_true pF)) (pP (i:=2) (aJ [.lst (st.1.map aU),x.1,.int x.2] rfl ?_) (j9 _));obtain⟨a,k,aF,e,d⟩:=gx;rw[e]at pF ⊢;replace pF:k=("chosen" : Str):=pF;cases d with
    |chosen d b o p s=>exact El st.1 sV x.2
    |root=>exact absurd pF (by decide +kernel)
    |named=>exact absurd pF (by decide +kernel)
    |heir=>exact absurd pF (by decide +kernel)
    |three _ hk=>rcases hk with rfl|rfl|rfl<;>exact absurd pF (by decide +kernel)
    |other _ hk=>rcases hk with rfl|rfl|rfl|rfl|rfl<;>exact absurd pF (by decide +kernel)
   ·refine mR (bW (bb:=false) hw (decide_eq_false pF)) ?_;by_cases hh:kindOf x.1=("heir" : Str)
    ·have es:eY (ak ab aa) st x=(st.1,dO st.2.1 [.inr (a7 2 x.1),.inr (a7 1 x.1)],dP st.2.1 st.2.2 [.inr (a7 2 x.1),.inr (a7 1 x.1)] (.str (a7 3 x.1))):=by unfold eY;rw[hc,if_pos rfl,if_neg hn,if_neg pF,if_pos hh]
     rw[es];have P8:au [x.1,.str "office"]=sF (.str (a7 2 x.1))/\au [x.1,.str "by"]=sF (.str (a7 1 x.1))/\au [x.1,.str "person"]=sF (.str (a7 3 x.1)):=by
      obtain⟨a,k,aF,e,d⟩:=gx;rw[e]at hh ⊢;replace hh:k=("heir" : Str):=hh;cases d with
      |heir d b o p=>exact⟨bw (i:=2) (bq (by decide +kernel)) rfl,bw (i:=1) (bq (by decide +kernel)) rfl,bw (i:=3) (bq (by decide +kernel)) rfl⟩
      |root=>exact absurd hh (by decide +kernel)
      |named=>exact absurd hh (by decide +kernel)
      |chosen=>exact absurd hh (by decide +kernel)
      |three _ hk=>rcases hk with rfl|rfl|rfl<;>exact absurd hh (by decide +kernel)
      |other _ hk=>rcases hk with rfl|rfl|rfl|rfl|rfl<;>exact absurd hh (by decide +kernel)
     exact l7 (bW (bb:=false) hw (decide_eq_true hh)) (Ku (ks:=st.2.1) (vs:=st.2.2) (kd:=[.str (a7 2 x.1),.str (a7 1 x.1)]) (b:=false) rfl (aJ [x.1,.str "person"] rfl P8.2.2) (aE (aJ [x.1,.str "office"] rfl P8.1) (aE (aJ [x.1,.str "by"] rfl P8.2.1) rfl)) rfl rfl (by have:=h.hk;omega) (by simp))
    ·refine mR (bW (bb:=false) hw (decide_eq_false hh)) ?_;have es:eY (ak ab aa) st x=(cm st.1 (st.1.map Cl.o) (a7 1 x.1) (aA x.1)++rZ (ak ab aa) st.1 st.2.1 st.2.2 (a7 1 x.1) (aA x.1) x.2,st.2):=by unfold eY;rw[hc,if_pos rfl,if_neg hn,if_neg pF,if_neg hh]
     rw[es];have hd:kindOf x.1=("death" : Str):=by
      unfold cR at hc;by_cases hd:kindOf x.1=("death" : Str)
      ·exact hd
      ·rw[if_neg hd,if_neg (by simp[xm,hn,pF,hh])]at hc;cases hc
     refine pP (i:=2) (aJ [.tup ab,.int aa,.lst (st.1.map aU),.dt st.2.1 st.2.2,.int x.2] (by simp) ?_) (j9 _);obtain⟨a,k,aF,e,d⟩:=gx;have hk:k=("death" : Str):=by rw[e]at hd;exact hd
     subst hk;obtain⟨dd,p,rfl⟩:=d.deed.three (by decide +kernel);have:=He g aa st.1 sV st.2.1 st.2.2 h.hs hx e;rw[this,e];rfl
theorem CM (K:KL):∀(l l0:KL)(st:Pg)(dd:List Str),Ai K l0 dd st->((l0++l).map (·.2)).Nodup->∃KQ,Ai K (l0++l) KQ (l.foldl (eY K) st)
 |[],l0,st,dd,h,_=>⟨dd,by rw[uQ];exact h⟩
 |x::l,l0,st,dd,h,hn=>by
  have hx:x.2∉l0.map (·.2):=λhm=>by
   rw[uW,List.nodup_append]at hn;exact hn.2.2 _ hm x.2 (by simp) rfl
  obtain⟨KQ,h'⟩:=h.step hx;have e:l0++x::l=(l0++[x])++l:=by simp
  rw[e]at hn ⊢;exact CM K l _ _ _ h' hn
theorem CN (K l:KL)(h:(l.map (·.2)).Nodup):∃dd,Ai K l dd (nF K l):=by
 have:=CM K l [] ([],[],[]) [] ⟨uN _,by simp,by simp,by simp,by simp,uN _⟩ h;exact this
theorem lx (h:(K.map (·.2)).Nodup):((cC K).map (·.2)).Nodup:=((bv _ _).map _).nodup_iff.mpr (List.Nodup.sublist (List.Sublist.map _ List.filter_sublist) h)
theorem o4 {ab:List D}(g:gf ab)(aa:Int)(bK:(cC (ak ab aa)).length<=60):kJ [.tup ab,.int aa]=some (.lst ((br (ak ab aa)).map aU),true)/\(br (ak ab aa)).length<=60:=by
 have eL:dZ [.tup ab,.int aa]=some (.lst ((cC (ak ab aa)).map λx=>.int x.2),true):=pj g aa;generalize hK:ak ab aa=K at bK eL ⊢;have lA:∀x∈cC K,x∈K/\bd x.1=false:=λx hx=>by
  obtain⟨h1,h2⟩:=vN ((bv _ _).mem_iff.mp hx);exact⟨h1,by simpa using h2⟩
 have EJ:((cC K).map (·.2)).Nodup:=lx (by rw[←hK];exact dF ab aa);obtain⟨ρ',e,v4,v5,rfl⟩:=i7 (tg:=dq 4) (g:=lq) (λj ρ=>∃v4 v5:Option (D×Bool),ρ=[sF (.tup ab),sF (.int aa),some (.lst ((nF K ((cC K).take j)).1.map aU),true),some (.dt (nF K ((cC K).take j)).2.1 (nF K ((cC K).take j)).2.2,true),v4,v5]) ((cC K).map λx=>.int x.2)
  [sF (.tup ab),sF (.int aa),some (.lst [],true),some (.dt [] [],true),none,none] ⟨none,none,rfl⟩ (by
   rintro j d ρ hd ⟨v4,v5,rfl⟩;rw[vA]at hd;obtain⟨x,hx,rfl⟩:=oY hd;have Zr:j<(cC K).length:=(vV hx).1;have et:(cC K).take (j+1)=(cC K).take j++[x]:=by rw[List.take_add_one,hx];rfl
   have ef:nF K ((cC K).take (j+1))=eY K (nF K ((cC K).take j)) x:=by rw[et];unfold nF;rw[List.foldl_append];rfl
   obtain⟨OL,Zs⟩:=lA x (vL hx);obtain⟨dd,h⟩:=CN K ((cC K).take j) (List.Nodup.sublist (List.Sublist.map _ (List.take_sublist _ _)) EJ);rw[←hK]at h;have jW:=Kv g aa h (by rw[hK,List.length_take];omega) (x:=x) (by rw[hK];exact OL) Zs v5;rw[hK]at jW;obtain⟨w5,jW⟩:=jW;exact⟨_,_,rfl,jW,sF (.int x.2),w5,by rw[ef]⟩)
 have l8:(cC K).take ((cC K).map λx=>D.int x.2).length=cC K:=by rw[vI,List.take_length]
 rw[l8]at e;obtain⟨dd,sV⟩:=CN K (cC K) EJ;generalize xJ:(nF K (cC K))=st at e sV;have sP:st.1.length<=60:=by have:=sV.len;omega
 have Xa:br K=dw (λc=>cB (kC c)) st.1:=by unfold br;rw[xJ]
 have hm:∀ρ:DL.Env,jO (t8 gP ρ) (st.1.map aU)=some (st.1.map λc=>.tup [.str c.o,.int c.s,.int c.n]):=λρ=>iF st.1 λc _=>by
  show(gP [aU c]).map _=_;rw[xh];rfl
 have hk:dA (st.1.map λc=>D.tup [.str c.o,.int c.s,.int c.n])=some (st.1.map kC):=g7 st.1 λc _=>rfl;have jF:(st.1.map kC).length<64/\dz (st.1.map kC)=true/\de (st.1.map kC)=true/\((st.1.map kC).map cB).Nodup:=by
  refine⟨by rw[vI];omega,CL _,?_,?_⟩
  ·unfold de;rw[Bool.or_eq_true];right;simp[List.all_eq_true,kC]
  ·rw[uP];have h1:st.1.Pairwise λa b=>(a.o,a.n)≠(b.o,b.n):=List.pairwise_map.mp sV.nod;have h2:st.1.Pairwise λa b=>cB (kC a)≠cB (kC b):=by
    refine List.Pairwise.imp_of_mem ?_ h1;intro a b ha hb p0 e;exact p0 (Hf ha hb e)
   exact List.pairwise_map.mpr h2
 have hz:(st.1.map kC).zip (st.1.map aU)=st.1.map λc=>(kC c,aU c):=by rw[List.zip_map']
 have key:((br K).map λc=>(kC c,aU c))=dw (λp:List At×D=>cB p.1) (st.1.map λc=>(kC c,aU c)):=by
  rw[Xa];refine gL _ (λx hx y hy e=>?_) ((bv _ _).map _) ?_
  ·obtain⟨a,ha,rfl⟩:=vO hx;obtain⟨b,hb,rfl⟩:=vO hy;rw[o3 (λc:Cl=>(c.o,c.n)) sV.nod ha hb (Hf ha hb e)]
  ·exact List.pairwise_map.mpr (fz _ _)
 refine⟨av rfl (cx (ds:=[]) (by simp[sizeLine]) rfl (dh (ρ':=[sF (.tup ab),sF (.int aa),some (.lst [],true),some (.dt [] [],true),none,none]) rfl (dh (ln (ds:=(cC K).map λx=>.int x.2) ?_ e) (az ?_)))),by rw[Xa,(bv _ _).length_eq];exact sP⟩
 ·show(fA dZ (fV 0 (fV 1 aj)) _).bind _=_;rw[aJ [.tup ab,.int aa] rfl eL];rfl
 ·unfold qD;show((some (D.lst (st.1.map aU),false)).bind _)=_;simp only[vJ];rw[hm];simp only[vJ];rw[hk];simp only[vJ];rw[if_pos jF];unfold jz;rw[hz,←key,uP];rfl
end Lw
namespace Lw
open PySem PySem.Spec DL L2
theorem z6 (ns:List Int)(k:Nat)(x:Int):∃c:Int,(a9 (aO 2 (f2 bM (f2 gG (f2 bY (f2 bY (f2 bM (ai 2) (fI 2147483629)) (f2 gG (fI 6151) (ai 1))) (fI 1)) (fI 48271)) (fI 2147483647)))
  (aW (f2 bM (f2 gG (ai 2) (f2 bY (f2 bY (f2 bM (ai 2) (fI 65519)) (ai 1)) (fI 2))) (fI 2147483629)))) [sF (.lst (ns.map .int)),sF (.int k),sF (.int x)]=some (.rt (.int c) false)/\0<=c:=by
 obtain⟨y,hy⟩:∃y,((x % 2147483629+6151*k+1)*48271) % 2147483647=y:=⟨_,rfl⟩;have hb:0<=y/\y<2147483647:=by rw[←hy];exact mod_lt (by decide)
 have hc : -18446744073709551616<y/\y<18446744073709551616:=by omega
 exact⟨(y*(y % 65519+k+2)) % 2147483629,gd (.int y) (by simp[hy]) rfl (az (by simp[hc])),(mod_lt (by decide)).1⟩
theorem ie (ns:List Int)(k:Nat):∃c:Int,di [.lst (ns.map .int),.int k]=sF (.int c)/\0<=c:=by
 by_cases h:ns.length=0
 ·have e:ns=[]:=List.length_eq_zero_iff.mp h;subst e;obtain⟨c,h1,h2⟩:=z6 [] k 5;exact⟨c,av rfl (gd (.int 5) rfl rfl (aC (cS (by simp)) h1)),h2⟩
 ·have hm:=mod_lt (x:=(k:Int)) (m:=ns.length) (by omega);obtain⟨c,h1,h2⟩:=z6 ns k (ns.getD ((k:Int) % ns.length).toNat 0);refine⟨c,av rfl (gd (.int 5) rfl rfl (dh (l7 (cS (by simp;omega)) (qU (d:=.int (ns.getD ((k:Int) % ns.length).toNat 0)) (b:=false) ?_ rfl)) h1)),h2⟩;refine bB (.lst (ns.map .int)) (.int ((k:Int) % ns.length)) rfl ?_ (C1 hm.1 (by omega));refine bB (.int k) (.int ns.length) rfl (by simp) ?_;have p0:¬ns=[]:=λe=>h (by rw[e];rfl);simp[bM,p0]
theorem Hg {ρ:DL.Env}{i n:Nat}{ds:List D}{fk fv:FE}{d:D}{b b':Bool}(e:ρ[i]? = some (some (.lst ds,true)))(ev:fv ρ=some (d,b))(ek:fk ρ=some (.int n,b'))(hn:n<ds.length)(hf:bg d=true):DK i fk fv ρ=some (.nx (ρ.set i (some (.lst (ds.set n d),true)))):=by
 have hx:D2 ds.length (n:Int)=some n:=by
  unfold D2;rw[if_pos (by omega)];simp[hn]
 simp only[DK,e,ev,ek,vJ,hx,if_pos hf]
theorem CO:∀(zs:List Str),(∀z∈zs,z.length=1)->(zs.map (·.length)).sum=zs.length
 |[],_=>rfl
 |z::zs,h=>by
  rw[uY,List.sum_cons,CO zs λy hy=>h y (mZ _ hy),h z mX,vE];omega
theorem CP (x:Int):0<=x % 26/\x % 26<26:=mod_lt (by decide)
noncomputable def nG:PySem.Str:="abcdefghijklmnopqrstuvwxyz"
theorem Em:nG.cps.size=26:=by decide +kernel
def Ra (x:Int):Str:=⟨#[nG.cps.toList.getD (x % 26).toNat 0]⟩
theorem Hh (x:Int):bP (.str nG) (.int (x % 26))=sF (.str (Ra x)):=DL.A1 (CP x).1 (by rw[Em];have:=CP x;omega) (by decide +kernel)
theorem z7:∀(zs:List Str)(y:Str),(Str.join ("" : Str) (y::zs)).cps.toList=(y::zs).flatMap λz=>z.cps.toList
 |[],y=>by rw[uO,List.flatMap_nil,uQ];rfl
 |z::r,y=>by
  have e3:∀a b:Str,(a++b).cps.toList=a.cps.toList++b.cps.toList:=λa b=>by show(a.cps++b.cps).toList=_;simp
  show(y++("" : Str)++Str.join ("" : Str) (z::r)).cps.toList=_;rw[e3,e3,z7 r z,show("" : Str).cps.toList=[]from rfl,uQ];rfl
theorem Hi (h:zs≠[]):(Txt.join ("" : Str) zs).cps.toList=zs.flatMap λz=>z.cps.toList:=by
 cases zs with
 |nil=>exact absurd rfl h
 |cons y zs=>
  unfold Txt.join;rw[StrLaws.glued_eq_join];exact z7 zs y
theorem nH (x y:Nat):∀(bs:List Str)(a:Nat),a<bs.length->(∀z∈bs,∃c,z.cps.toList=[c])->((bs.set a ⟨#[x]⟩).flatMap λz=>z.cps.toList)=((bs.set a ⟨#[y]⟩).flatMap λz=>z.cps.toList)->x=y
 |b::bs,0,_,_,h=>by
  rw[List.set_cons_zero,List.set_cons_zero,uO,uO]at h;exact(List.cons.inj h).1
 |b::bs,a+1,hl,hb,h=>by
  rw[List.set_cons_succ,List.set_cons_succ,uO,uO]at h;exact nH x y bs a (by simpa using hl) (λz hz=>hb z (mZ _ hz)) (List.append_cancel_left h)
theorem Hj:∀i j:Fin 26,nG.cps.toList.getD i.val 0=nG.cps.toList.getD j.val 0->i=j:=by decide +kernel
def z8 (bs:List Str)(a:Nat)(c:Int)(i:Nat):Str:=Txt.join ("" : Str) (bs.set a (Ra (c / 64+3*(i:Int))))
theorem LV {bs:List Str}{a:Nat}{c:Int}{i j:Nat}(ha:a<bs.length)(hb:∀z∈bs,∃c,z.cps.toList=[c])(Ad:(3*(i:Int) - 3*(j:Int)) % 26≠0):z8 bs a c i≠z8 bs a c j:=by
 intro e;have e:=congrArg (λs:Str=>s.cps.toList) e;unfold z8 at e;have p0:∀x,bs.set a x≠[]:=λx z=>by have:=congrArg List.length z;rw[List.length_set,List.length_nil]at this;omega
 simp only[Hi (p0 _)]at e;have:=nH _ _ bs a ha hb e;have h1:=CP (c / 64+3*(i:Int));have h2:=CP (c / 64+3*(j:Int));have:=Hj ⟨((c / 64+3*(i:Int)) % 26).toNat,by omega⟩ ⟨((c / 64+3*(j:Int)) % 26).toNat,by omega⟩ this;have:=congrArg Fin.val this;simp only at this;omega
theorem Hk (c:Int)(hc:0<=c):∃zs:List Str,om [.int c]=some (.lst (zs.map .str),true)/\zs.length=7/\∀x y,zs[5]? = some x->zs[6]? = some y->x≠y:=by
 have h8:=mod_lt (x:=c) (m:=8) (by decide);obtain⟨n,hn⟩:∃n:Nat,1+c % 8=n:=⟨(1+c % 8).toNat,by omega⟩;have Td:1<=n:=by omega
 have hn8:n<=8:=by omega
 let bs:List Str:=(List.range n).map λ(k:Nat)=>Ra (c / (3+4*k));have P9:bs.length=n:=by simp[bs]
 have hb:=lG (fi:=fu (f2 bY (fI 1) (f2 bM (ai 0) (fI 8)))) (nT:=1) (cap:=[1,0]) (tg:=dq 0) (fe:=f2 bP (ai 1) (f2 bM (f2 cZ (ai 2) (f2 bY (fI 3) (f2 gG (fI 4) (ai 0)))) (fI 26)))
  (ρ:=[sF (.int c),sF (.str nG),none,none,none,none,none]) (List.range n) (λ(k:Nat)=>.int k) (λ(k:Nat)=>.str (Ra (c / (3+4*k))))
  (by rw[gt (j:=n) (b:=false) (by simp;omega) (by omega),Eg];simp) (by simp;omega) λk hk=>by
   have hk:=List.mem_range.mp hk;refine⟨_,rfl,false,bB (.str nG) (.int (c / (3+4*k) % 26)) (by simp[cH]) ?_ (Hh _)⟩;have h1:(0:Int)<3+4*k:=by omega
   have h2:(3:Int)+4*k<1073741824:=by omega
   simp[cH,h1,h2]
 have Zt:bL (fu (f2 bY (fI 1) (f2 bM (ai 0) (fI 8)))) 1 [1,0] (dq 0) fY (f2 bP (ai 1) (f2 bM (f2 cZ (ai 2) (f2 bY (fI 3) (f2 gG (fI 4) (ai 0)))) (fI 26))) [sF (.int c),sF (.str nG),none,none,none,none,none]=some (.lst (bs.map .str),true):=by
  rw[hb];simp[bs]
 have hat:=mod_lt (x:=c / 8) (m:=n) (by omega);obtain⟨a,ha⟩:∃a:Nat,c / 8 % n=a:=⟨(c / 8 % n).toNat,by omega⟩;obtain⟨zs,v5,v6,e,hz,OM⟩:∃(zs:List Str)(v5 v6:Option (D×Bool)),jc (dq 5) md (gn 0 7) [sF (.int c),sF (.str nG),some (.lst (bs.map .str),true),sF (.int (c / 8 % n)),some (.lst [],true),none,none]=some (.nx [sF (.int c),sF (.str nG),some (.lst (bs.map .str),true),sF (.int (c / 8 % n)),some (.lst (zs.map .str),true),v5,v6])/\zs.length=7/\zs=(List.range 7).map (z8 bs a c):=by
  obtain⟨ρ',e,zs,v5,v6,rfl,hz,OM⟩:=j4 (tg:=dq 5) (g:=md) 7 (λi ρ=>∃(zs:List Str)(v5 v6:Option (D×Bool)),ρ=[sF (.int c),sF (.str nG),some (.lst (bs.map .str),true),sF (.int (c / 8 % n)),some (.lst (zs.map .str),true),v5,v6]/\zs.length=i/\zs=(List.range i).map (z8 bs a c))
   [sF (.int c),sF (.str nG),some (.lst (bs.map .str),true),sF (.int (c / 8 % n)),some (.lst [],true),none,none] ⟨[],none,none,rfl,rfl,rfl⟩ (by
    rintro i ρ hi ⟨zs,v5,v6,rfl,hz,OM⟩;let l:=Ra (c / 64+3*i);let nm:=bs.set a l;have h1:∀z∈nm,z.length=1:=λz hz=>by
     rcases List.mem_or_eq_of_mem_set hz with h|h
     ·obtain⟨k,_,rfl⟩:=vO h;rfl
     ·rw[h];rfl
    have SY:nm.length=n:=by simp[nm,P9]
    refine⟨_,_,rfl,.inl (cx (ds:=bs.map .str) (by simp) (eE _) (dh (Hg (n:=a) (ds:=bs.map .str) (d:=.str l) (b:=false) (b':=false) rfl ?_ ?_ (by simp[P9];omega) rfl) (gX (ds:=zs.map .str) (d:=.str (Txt.join ("" : Str) nm)) (b:=false) rfl ?_ rfl (bD (by simp;omega))))),zs++[Txt.join ("" : Str) nm],sF (.int i),some (.lst (nm.map .str),true),?_,by simp[hz],by rw[OM,List.range_succ,uW];rfl⟩
    ·exact bB (.str nG) (.int ((c / 64+3*i) % 26)) rfl (by simp) (Hh _)
    ·simp[ha]
    ·refine bB (.str "") (.lst (nm.map .str)) rfl (by simp[nm]) ?_;show(ga (nm.map .str)).bind _=_;rw[rT];have:=CO nm h1;have h0:("" : Str).length=0:=rfl;show(if _ then _ else _)=_;rw[if_pos (by rw[this,h0,SY];omega)]
    ·simp[nm])
  exact⟨zs,v5,v6,e,hz,OM⟩
 have hsz:(bs.length:Int)=n:=by omega
 refine⟨if c / 1000 % 8=1 then zs.set 5 (zs.getD 0 ⟨#[]⟩)else zs,?_,by split<;>simp[hz],?_⟩
 refine av rfl (gd (.str nG) rfl rfl (cx (ds:=bs.map .str) Zt (eE _) (gd (.int (c / 8 % n)) ?_ rfl (cx (ds:=[]) (by simp[sizeLine]) (by simp) (dh (j5 (gt (j:=7) (b:=false) rfl (by decide)) e) ?_)))))
 ·have:(bs.length:Int)≠0:=by omega
  refine bB (.int (c / 8)) (.int n) (by simp) (by simp[P9]) ?_;have h1:(0:Int)<n:=by omega
  show(if decide ((0:Int)<n)=true then _ else _)=_;rw[if_pos (decide_eq_true h1)]
 ·by_cases h:c / 1000 % 8=1
  ·rw[if_pos h];have h5:5<(zs.map D.str).length:=by simp[hz]
   obtain⟨z0,zr,rfl⟩:∃z0 zr,zs=z0::zr:=by cases zs with|nil=>simp at hz|cons a b=>exact⟨a,b,rfl⟩
   refine dh (l7 (cS (by simp[h])) (Hg (n:=5) (ds:=(z0::zr).map .str) (d:=.str z0) (b:=false) (b':=false) rfl ?_ rfl h5 rfl)) (mS ?_)
   ·exact bB (.lst ((z0::zr).map .str)) (.int 0) rfl rfl (by simp[Iv])
   ·simp
  ·rw[if_neg h];exact aC (cS (by simp[h])) (mS rfl)
 ·have Ta:a<bs.length:=by omega
  have Xb:∀z∈bs,∃c,z.cps.toList=[c]:=λz hz=>by obtain⟨k,_,rfl⟩:=vO hz;exact⟨_,rfl⟩
  intro x y hx hy;have h0:zs[0]? = some (z8 bs a c 0):=by rw[OM];rfl
  have h5:zs[5]? = some (z8 bs a c 5):=by rw[OM];rfl
  have h6:zs[6]? = some (z8 bs a c 6):=by rw[OM];rfl
  split at hx
  ·rename_i hc8;rw[if_pos hc8,vB (by decide),h6]at hy;rw[List.getElem?_set_self (by omega),vF,h0]at hx;cases hx;cases hy
   exact LV Ta Xb (by decide)
  ·rename_i hc8;rw[if_neg hc8,h6]at hy;rw[h5]at hx;cases hx;cases hy
   exact LV Ta Xb (by decide)
def iQ (x:Int×Option Int):D:=.tup [.int x.1,uD x.2]
theorem jB (x:Int×Option Int):bg (iQ x)=true:=by simp[iQ,CG]
theorem vk (x:Int×Option Int):aq 5 (iQ x)=true:=by obtain⟨s,u⟩:=x;cases u<;>simp[iQ,uD]
theorem Bv (a d m:Int):∃x,gR [.int a,.int d,.int m]=some (iQ x,false):=by
 have h8:=mod_lt (x:=a) (m:=8) (by decide);let L1:List (Int×Option Int):=[(0,none),(d,none),(d,some (d+3*m)),(0,some (d+2*m)),(0,some (9*m))];let L2:List (Int×Option Int):=[(d+m,some (d+4*m)),(d / 2,some (d+6*m)),(0,none)];have vz:∀L:List (Int×Option Int),b9 (L.map iQ)=true:=λL=>bV λd hd=>by obtain⟨x,_,rfl⟩:=vO hd;exact jB x
 have hi:(a % 8).toNat<((L1++L2).map iQ).length:=by show _<8;omega
 refine⟨(L1++L2).getD (a % 8).toNat (0,none),av rfl (cx (ds:=L1.map iQ) (by simp[L1,iQ,uD,sizeLine]) (vz _) (cx (ds:=(L1++L2).map iQ) ?_ (vz _) (az (bB (.lst ((L1++L2).map iQ)) (.int (a % 8)) rfl (by simp) ((Bj h8.1 hi).trans ?_)))))⟩
 ·refine iS (x:=.lst (L1.map iQ)) (y:=.lst (L2.map iQ)) (b1:=false) (b2:=true) rfl (by simp[L2,iQ,uD,sizeLine]) ?_;simp[L1,L2,sizeLine]
 ·rw[vF,vA,vF];rw[vI]at hi;rw[vU hi];rfl
theorem kT {zs:List Str}{i:Int}(h1 : -(zs.length:Int)<=i)(h2:i<zs.length):∃z∈zs,bP (.lst (zs.map .str)) (.int i)=sF (.str z):=by
 obtain⟨j,hj,hl⟩:∃j,D2 (zs.map D.str).length i=some j/\j<zs.length:=by
  unfold D2;rw[vI];by_cases h0:0<=i
  ·rw[if_pos h0,if_pos h2];exact⟨_,rfl,by omega⟩
  ·rw[if_neg h0,if_pos (by omega)];exact⟨_,rfl,by omega⟩
 refine⟨zs[j],List.getElem_mem hl,?_⟩;have:oE (zs.map D.str) i=some (.str zs[j]):=by unfold oE;rw[hj,vJ,vA,vU hl];rfl
 simp[this]
noncomputable def MR:List Nat:=[7,255,3,15]
noncomputable def MS:List Nat:=[1,2,3,4,5,7,128,255]
inductive Dd:Str->List D->Prop
 |root (o r:Str) (m:Nat) (hm:m∈MR) (f:Int):Dd ("root" : Str) [.str o,.int m,.int f,.str r]
 |named (d:Int) (o p:Str):Dd ("named" : Str) [.int d,.str o,.str p]
 |chosen (d:Int) (b o p:Str) (s:Int):Dd ("chosen" : Str) [.int d,.str b,.str o,.str p,.int s]
 |heir (d:Int) (b o p:Str):Dd ("heir" : Str) [.int d,.str b,.str o,.str p]
 |three (k:Str) (hk:k=("death" : Str)∨k=("lost" : Str)∨k=("found" : Str)) (d:Int) (p:Str):Dd k [.int d,.str p]
 |leave (d:Int) (b p:Str) (m:Nat) (hm:m∈MS) (x:Int×Option Int) (f:Int):Dd ("leave" : Str) [.int d,.str b,.str p,.int m,iQ x,.int f]
 |paper (k:Str) (hk:k=("paper" : Str)∨k=("like" : Str)) (d:Int) (b:Str) (m:Nat) (hm:m∈MS) (x:Int×Option Int) (r:List D) (hf:b9 r=true) (hp:r.all (aq 5)=true):Dd k (.int d::.str b::.int m::iQ x::r)
 |copy (k:Str) (hk:k=("copy" : Str)∨k=("call" : Str)) (d:Int) (b:Str) (n:Nat):Dd k [.int d,.str b,.int n]
theorem Dd.cd (h:Dd k r):Cd k r:=by
 cases h with
 |root o r m hm f=>exact .root _ _ _ _
 |named d o p=>exact .named _ _ _
 |chosen d b o p s=>exact .chosen _ _ _ _ _
 |heir d b o p=>exact .heir _ _ _ _
 |three k hk d p=>exact .three _ hk _ _
 |leave d b p m hm x f=>exact .other _ (.inl rfl) _ _ _ (by simp[jB]) (by simp only[List.all_cons,List.all_nil,vk,aq,Bool.and_true])
 |paper k hk d b m hm x r hf hp=>exact .other _ (hk.elim (λh=>.inr (.inl h)) λh=>.inr (.inr (.inl h))) _ _ _ (by simp[hf,jB]) (by simp only[List.all_cons,hp,vk,aq,Bool.and_true])
 |copy k hk d b n=>exact .other _ (hk.elim (λh=>.inr (.inr (.inr (.inl h)))) λh=>.inr (.inr (.inr (.inr h)))) _ _ _ rfl (by simp)
theorem Dd.had3 (h:Dd k r)(hk:k=("leave" : Str)∨k=("named" : Str)):∃p,r[2]? = some (.str p):=by
 have hk:k∈[("leave" : Str),("named" : Str)]:=by simpa using hk
 cases h with
 |named d o p=>exact⟨p,rfl⟩
 |leave d b p=>exact⟨p,rfl⟩
 |root=>exact absurd hk (by decide +kernel)
 |chosen=>exact absurd hk (by decide +kernel)
 |heir=>exact absurd hk (by decide +kernel)
 |three k fP=>rcases fP with rfl|rfl|rfl<;>exact absurd hk (by decide +kernel)
 |paper k fP=>rcases fP with rfl|rfl<;>exact absurd hk (by decide +kernel)
 |copy k fP=>rcases fP with rfl|rfl<;>exact absurd hk (by decide +kernel)
theorem Dd.had4 (h:Dd k r)(hk:k=("chosen" : Str)):∃p,r[3]? = some (.str p):=by
 cases h with
 |chosen d b o p=>exact⟨p,rfl⟩
 |root=>exact absurd hk (by decide +kernel)
 |named=>exact absurd hk (by decide +kernel)
 |leave=>exact absurd hk (by decide +kernel)
 |heir=>exact absurd hk (by decide +kernel)
 |three k fP=>rcases fP with rfl|rfl|rfl<;>exact absurd hk (by decide +kernel)
 |paper k fP=>rcases fP with rfl|rfl<;>exact absurd hk (by decide +kernel)
 |copy k fP=>rcases fP with rfl|rfl<;>exact absurd hk (by decide +kernel)
theorem Dd.flat (h:Dd k r):b9 r=true:=h.cd.deed.flat
noncomputable def fU:List Str:=[("leave" : Str),("leave" : Str),("leave" : Str),("leave" : Str),("leave" : Str),("paper" : Str),("paper" : Str),("like" : Str),("copy" : Str),("copy" : Str),("call" : Str),("call" : Str),("named" : Str),("death" : Str),("lost" : Str),("found" : Str),("chosen" : Str),("heir" : Str)]
theorem En (h:w∈fU):w=("leave" : Str)∨w=("paper" : Str)∨w=("like" : Str)∨w=("copy" : Str)∨w=("call" : Str)∨w=("named" : Str)∨w=("death" : Str)∨w=("lost" : Str)∨w=("found" : Str)∨w=("chosen" : Str)∨w=("heir" : Str):=by
 simp only[fU,List.mem_cons,List.not_mem_nil,or_false]at h;rcases h with rfl|rfl|rfl|rfl|rfl|rfl|rfl|rfl|rfl|rfl|rfl|rfl|rfl|rfl|rfl|rfl|rfl|rfl<;>simp
theorem Hl (many c o day m:Int)(zs iO:List Str)(hz:zs.length=7)(hh:iO≠[]):
  ∃(w p4 p:Str)(Mp:Nat),w∈fU/\∀(h:FS)(r:Option Res),h [sF (.int many),sF (.int c),sF (.int o),sF (.lst (zs.map .str)),sF (.int day),sF (.lst (iO.map .str)),sF (.int m),some (.lst (fU.map .str),true),sF (.str w),sF (.str p4),sF (.str p),sF (.int Mp),none,none,none]=r ->
   (a9 (aO 7 (f2 bY (f2 bY (DY (fA bJ (af (fS ("leave" : Str)) aj)) (fI 5)) (DY (fA bJ (af (fS ("paper" : Str)) aj)) (fI 2))) (fA bJ (af (fS ("like" : Str)) (af (fS ("copy" : Str)) (af (fS ("copy" : Str)) (af (fS ("call" : Str)) (af (fS ("call" : Str)) aj)))))))) (a9 (aO 7 (f2 bY (ai 7) (fA bJ (af (fS ("named" : Str)) (af (fS ("death" : Str)) (af (fS ("lost" : Str)) (af (fS ("found" : Str)) (af (fS ("chosen" : Str)) (af (fS ("heir" : Str)) aj))))))))) (a9 (aO 8 (f2 bP (ai 7) (f2 bM (ai 1) (fI 18)))) (a9 (aO 9 (f2 bP (ai 5) (f2 AD (f1 qi (fI 1)) (f2 bM (f2 cZ (ai 1) (fI 18)) (fA Jz (af (fI 3) (af (fA gW (fV 5 aj)) aj))))))) (a9 (eM (bo (f2 dJ (f2 bM (f2 cZ (ai 1) (fI 54)) (fI 6)) (fI 1))) (aO 9 (f2 bP (ai 3) (f2 bM (f2 cZ (ai 1) (fI 324)) (fI 5)))) bp) (a9 (aO 10 (f2 bP (ai 3) (f2 bM (f2 cZ (ai 1) (fI 1620)) (fI 5)))) (a9 (aO 11 (fA Jy (af (fI 0) (af (f2 AD (f2 AD (ai 0) (fI 1)) (f2 bM (ai 2) (fI 4))) aj)))) (a9 (eM (bo (f2 dJ (f2 bM (f2 cZ (ai 2) (fI 4)) (fI 8)) (fI 1))) (aO 11 (f2 bM (f2 cZ (ai 2) (fI 32)) (fI 60))) bp) h)))))))) [sF (.int many),sF (.int c),sF (.int o),sF (.lst (zs.map .str)),sF (.int day),sF (.lst (iO.map .str)),sF (.int m),none,none,none,none,none,none,none,none]=r:=by
 have h18:=mod_lt (x:=c) (m:=18) (by decide);obtain⟨w,hw,ew⟩:=kT (zs:=fU) (i:=c % 18) (by simp[fU];omega) (by simp[fU];omega);obtain⟨n,hn,Td,hn3⟩:∃n:Int,(if(iO.length:Int)<3 then (iO.length:Int)else 3)=n/\0<n/\n<=iO.length:=by
  have:0<iO.length:=List.length_pos_iff.mpr hh;split
  ·exact⟨_,rfl,by omega,by omega⟩
  ·exact⟨_,rfl,by omega,by omega⟩
 have hmn:=mod_lt (x:=c / 18) (m:=n) Td;obtain⟨b0,_,Zu⟩:=kT (zs:=iO) (i:=-1 - c / 18 % n) (by omega) (by omega);have h5:=mod_lt (x:=c / 324) (m:=5) (by decide);obtain⟨b1,_,Zv⟩:=kT (zs:=zs) (i:=c / 324 % 5) (by omega) (by omega);have h5':=mod_lt (x:=c / 1620) (m:=5) (by decide);obtain⟨p,_,ep⟩:=kT (zs:=zs) (i:=c / 1620 % 5) (by omega) (by omega);have h60:=mod_lt (x:=o / 32) (m:=60) (by decide);obtain⟨f0,Zw⟩:∃f0:Nat,(if many - 1 - o % 4 > 0 then many - 1 - o % 4 else 0)=(f0:Int):=by
  split
  ·exact⟨(many - 1 - o % 4).toNat,by omega⟩
  ·exact⟨0,rfl⟩
 obtain⟨f1,Zx⟩:∃f1:Nat,o / 32 % 60=(f1:Int):=⟨(o / 32 % 60).toNat,by omega⟩;refine⟨w,if c / 54 % 6=1 then b1 else b0,p,if o / 4 % 8=1 then f1 else f0,hw,λh r hr=>?_⟩;refine cx (ds:=(fU.take 12).map .str) ?_ (eE _) (cx (ds:=fU.map .str) ?_ (eE _) (gd (.str w) (bB (.lst (fU.map .str)) (.int (c % 18)) rfl (by simp) ew) rfl (gd (.str b0) ?_ rfl (dh (ρ':=[sF (.int many),sF (.int c),sF (.int o),sF (.lst (zs.map .str)),sF (.int day),sF (.lst (iO.map .str)),sF (.int m),some (.lst (fU.map .str),true),sF (.str w),sF (.str (if c / 54 % 6=1 then b1 else b0)),none,none,none,none,none]) ?_ (gd (.str p) ?_ rfl (gd (.int f0) ?_ rfl (dh ?_ hr)))))))
 ·have e1:∀(s:Str)(k:Nat),k<=100->DY (fA bJ (af (fS s) aj)) (fC (.int k)) [sF (.int many),sF (.int c),sF (.int o),sF (.lst (zs.map .str)),sF (.int day),sF (.lst (iO.map .str)),sF (.int m),none,none,none,none,none,none,none,none]=some (.lst (List.replicate k (.str s)),true):=λs k hk=>by
   have h1:(k:Int)<=1000:=by omega
   have h2:k<=1000:=by omega
   have h3:∀n:Nat,(List.replicate n [D.str s]).flatten=List.replicate n (.str s):=λn=>by
    induction n with
    |zero=>rfl
    |succ n ih=>rw[List.replicate_succ,List.flatten_cons,ih,List.replicate_succ];rfl
   simp[sizeLine,h1,h2,h3]
  have z:∀n:Nat,n<=100->n<=sizeLine:=λn h=>dY (by omega);refine iS (x:=.lst ((fU.take 7).map .str)) (y:=.lst (((fU.drop 7).take 5).map .str)) (b1:=true) (b2:=true) (iS (x:=.lst ((fU.take 5).map .str)) (y:=.lst (List.replicate 2 (.str "paper"))) (b1:=true) (b2:=true) (e1 _ 5 (by decide)) (e1 _ 2 (by decide)) ?_) (aJ (((fU.drop 7).take 5).map .str) rfl (fT _ (by simp[fU]))) ?_
  ·refine(if_pos (c:=7<=sizeLine) (e:=none) (z 7 (by decide))).trans ?_;rfl
  ·refine(if_pos (c:=12<=sizeLine) (e:=none) (z 12 (by decide))).trans ?_;rfl
 ·refine iS (x:=.lst ((fU.take 12).map .str)) (y:=.lst ((fU.drop 12).map .str)) (b1:=false) (b2:=true) rfl (aJ ((fU.drop 12).map .str) rfl (fT _ (by decide))) ?_;refine(if_pos (c:=18<=sizeLine) (e:=none) (dY (by decide))).trans ?_;rfl
 ·refine bB (.lst (iO.map .str)) (.int (-1 - c / 18 % n)) rfl ?_ Zu;refine bB (.int (-1)) (.int (c / 18 % n)) rfl ?_ rfl;refine bB (.int (c / 18)) (.int n) (by simp) (by simp[hn]) ?_;show(if decide ((0:Int)<n)=true then _ else _)=_;rw[if_pos (decide_eq_true Td)]
 ·by_cases hx:c / 54 % 6=1
  ·rw[if_pos hx];exact l7 (cS (by simp[hx])) (qU (d:=.str b1) (b:=false) (bB (.lst (zs.map .str)) (.int (c / 324 % 5)) rfl (by simp) Zv) rfl)
  ·rw[if_neg hx];exact mR (cS (by simp[hx])) rfl
 ·exact bB (.lst (zs.map .str)) (.int (c / 1620 % 5)) rfl (by simp) ep
 ·show some (D.int (if many - 1 - o % 4 > 0 then many - 1 - o % 4 else 0),false)=_;rw[Zw]
 ·by_cases hx:o / 4 % 8=1
  ·simp only[if_pos hx];exact l7 (cS (by simp[hx])) (qU (d:=.int f1) (b:=false) (by simp[Zx]) rfl)
  ·simp only[if_neg hx];exact mR (cS (by simp[hx])) rfl
theorem nI {ns:List Int}{i:Int}(h1:0<=i)(h2:i<ns.length):∃m∈ns,bP (.lst (ns.map .int)) (.int i)=sF (.int m):=by
 have h:i.toNat<ns.length:=by omega
 refine⟨ns.getD i.toNat 0,?_,C1 h1 h⟩;rw[vF,vU h];exact List.getElem_mem h
theorem o5 (h : -1000<=a/\a<=1000):Np (.int a) (.int b)=sF (.int (a*b)):=by
 have : -18446744073709551616<a/\a<18446744073709551616:=by omega
 simp[this]
theorem dn (e:ρ[i]? = some (sF (.str a)))(h:decide (a=b)=false:=by decide +kernel):bo (f2 dJ (ai i) (fS b)) ρ=some false:=bW (a:=a) (bb:=false) (by simp[e]) h
theorem Bw (e:ρ[i]? = some (sF (.str a)))(h:decide (a=b)=true:=by decide +kernel):bo (f2 dJ (ai i) (fS b)) ρ=some true:=bW (a:=a) (bb:=false) (by simp[e]) h
theorem z9 (x:Bool)(e:ρ[i]? = some (sF (.str a)))(h:decide (a∈[b,c])=x:=by decide +kernel):bo (f2 oH (ai i) (fA aS (af (fS b) (af (fS c) aj)))) ρ=some x:=cS (bB (.str a) (.tup ([b,c].map .str)) (by simp[e]) (by simp[sizeLine]) (by rw[iE,h]))
theorem LW {l:List Int}{x:Int}(h:x∈l)(hl:l.all (λy=>decide (0<=y/\y.toNat∈MS))=true):∃m:Nat,x=m/\m∈MS:=by
 have:=of_decide_eq_true (uR hl x h);exact⟨x.toNat,by omega,this.2⟩
theorem Kw (many c o day m:Int)(zs iO:List Str)(hz:zs.length=7)(hh:iO≠[]):
  ∃k r,rE [.int many,.int c,.int o,.lst (zs.map .str),.int day,.lst (iO.map .str),.int m]=sF (.tup (.str k::r))/\Dd k r/\k≠("root" : Str):=by
 obtain⟨w,p4,p,Mp,hw,pre⟩:=Hl many c o day m zs iO hz hh;obtain⟨s,es⟩:=Bv (o / 32) day m;have h8:=mod_lt (x:=c / 8100) (m:=8) (by decide);obtain⟨m1i,Vl,Zy⟩:=nI (ns:=[3,1,7,2,255,5,1,3]) (i:=c / 8100 % 8) h8.1 h8.2;obtain⟨m2i,Vm,Xc⟩:=nI (ns:=[1,1,3,2,4,5,128,7]) (i:=c / 8100 % 8) h8.1 h8.2;obtain⟨m1,rfl,Px⟩:=LW Vl (by decide);obtain⟨m2,rfl,Te⟩:=LW Vm (by decide);have h4:=mod_lt (x:=o / 2560) (m:=4) (by decide);obtain⟨dv,Vn,ed⟩:=nI (ns:=[5,5,5,10]) (i:=o / 2560 % 4) h4.1 h4.2;have P4:0<dv:=by simp only[List.mem_cons,List.not_mem_nil,or_false]at Vn;omega
 have h2:=mod_lt (x:=o / 256) (m:=2) (by decide);obtain⟨wv,Zz,Tf,Xd⟩:∃wv,bP (.lst [.non,.str p]) (.int (o / 256 % 2))=some (wv,false)/\bg wv=true/\aq 5 wv=true:=by
  rcases (show o / 256 % 2=0∨o / 256 % 2=1 by omega)with h|h
  ·rw[h];exact⟨.non,by simp[Iv],rfl,by simp⟩
  ·rw[h];exact⟨.str p,by simp[Iw],rfl,by simp⟩
 have EB:=mod_lt (x:=o) (m:=2) (by decide);have Pp:=mod_lt (x:=o) (m:=2) (by decide);obtain⟨Sc,_,eo⟩:=kT (zs:=zs) (i:=5+o % 2) (by omega) (by omega);obtain⟨Sd,_,Z0⟩:=kT (zs:=zs) (i:=5+o % 2) (by omega) (by omega);have h3o:=mod_lt (x:=o / 32) (m:=3) (by decide);have Vo:∀(ρ:DL.Env),ρ[2]? = some (sF (.int o))->ρ[4]? = some (sF (.int day))->ρ[6]? = some (sF (.int m))->fA gR (af (f2 cZ (ai 2) (fI 32)) (fV 4 (fV 6 aj))) ρ=some (iQ s,false):=λρ q1 q2 q3=>
  aJ [.int (o / 32),.int day,.int m] (by simp[q1,q2,q3]) es
 have Se:∀(ρ:DL.Env),ρ[2]? = some (sF (.int o))->ρ[3]? = some (sF (.lst (zs.map .str)))->f2 bP (ai 3) (f2 bY (fI 5) (f2 bM (ai 2) (fI 2))) ρ=sF (.str Sc):=λρ q1 q2=>bB (.lst (zs.map .str)) (.int (5+o % 2)) (by simp[q2]) (by simp[q1]) eo;have Vp:∀(ns:List Int)(M:Nat)(ρ:DL.Env)(fl:FE),fl ρ=some (.lst (ns.map .int),true)->ρ[1]? = some (sF (.int c))->bP (.lst (ns.map .int)) (.int (c / 8100 % 8))=sF (.int M)->f2 bP fl (f2 bM (f2 cZ (ai 1) (fI 8100)) (fI 8)) ρ=sF (.int M):=λns M ρ fl e1 q e=>iS (x:=.lst (ns.map .int)) (y:=.int (c / 8100 % 8)) (b1:=true) (b2:=false) e1 (by simp[q]) e;have Xe:∀(ρ:DL.Env),ρ[2]? = some (sF (.int o))->ρ[10]? = some (sF (.str p))->f2 bP (fA bJ (af (fC .non) (fV 10 aj))) (f2 bM (f2 cZ (ai 2) (fI 256)) (fI 2)) ρ=some (wv,false):=λρ q1 q2=>iS (x:=.lst [.non,.str p]) (y:=.int (o / 256 % 2)) (b1:=true) (b2:=false) (by simp[sizeLine,q2]) (by simp[q1]) Zz;rcases En hw with rfl|rfl|rfl|rfl|rfl|rfl|rfl|rfl|rfl|rfl|rfl
 ·refine⟨_,[.int day,.str p4,.str p,.int m1,iQ s,.int (o / 256 % dv)],av rfl (pre _ _ ?_),.leave _ _ _ _ Px _ _,by decide +kernel⟩;refine bI (Bw rfl) (gd (.int m1) (Vp [3,1,7,2,255,5,1,3] _ _ _ (by simp[sizeLine]) rfl Zy) rfl (gd (.int (o / 256 % dv)) ?_ rfl (az (aJ [.str "leave",.int day,.str p4,.str p,.int m1,iQ s,.int (o / 256 % dv)] (cq rfl (cq rfl (cq rfl (cq rfl (cq rfl (aE (Vo _ rfl rfl rfl) (cq rfl rfl))))))) (cu _ (by simp))))));refine bB (.int (o / 256)) (.int dv) (by simp) (iS (x:=.lst (([5,5,5,10]:List Int).map .int)) (y:=.int (o / 2560 % 4)) (b1:=true) (b2:=false) (by simp[sizeLine]) (by simp) ed) ?_;show(if decide ((0:Int)<dv)=true then _ else _)=_;rw[if_pos (decide_eq_true P4)]
 ·refine⟨_,[.int day,.str p4,.int m2,iQ s,wv,.tup [.str p]],av rfl (pre _ _ ?_),.paper _ (.inl rfl) _ _ _ Te _ _ (by simp[Tf]) (by simp[Xd]),by decide +kernel⟩;exact aC (dn rfl) (bI (cW (p:=true) (q:=false) (Bw rfl) λ_=>dn rfl) (gd (.int m2) (Vp [1,1,3,2,4,5,128,7] _ _ _ (by simp[sizeLine]) rfl Xc) rfl (gd (.tup [.str "paper",.int day,.str p4,.int m2,iQ s,wv]) (aJ [.str "paper",.int day,.str p4,.int m2,iQ s,wv] (cq rfl (cq rfl (cq rfl (cq rfl (aE (Vo _ rfl rfl rfl) (aE (Xe _ rfl rfl) rfl)))))) (cu _ (by simp))) (by simp[jB,Tf]) (aC (dn rfl) (az (bB (.tup [.str "paper",.int day,.str p4,.int m2,iQ s,wv]) (.tup [.tup [.str p]]) rfl (by simp[sizeLine]) (by simp[sizeLine])))))))
 ·refine⟨_,[.int day,.str p4,.int m2,iQ s,wv,.int Mp,.tup [.tup [.int 0,.str p]]],av rfl (pre _ _ ?_),.paper _ (.inr rfl) _ _ _ Te _ _ (by simp[Tf]) (by simp[Xd]),by decide +kernel⟩;exact aC (dn rfl) (bI (cW (p:=false) (q:=true) (dn rfl) λ_=>Bw rfl) (gd (.int m2) (Vp [1,1,3,2,4,5,128,7] _ _ _ (by simp[sizeLine]) rfl Xc) rfl (gd (.tup [.str "like",.int day,.str p4,.int m2,iQ s,wv]) (aJ [.str "like",.int day,.str p4,.int m2,iQ s,wv] (cq rfl (cq rfl (cq rfl (cq rfl (aE (Vo _ rfl rfl rfl) (aE (Xe _ rfl rfl) rfl)))))) (cu _ (by simp))) (by simp[jB,Tf]) (bI (Bw rfl) (az (bB (.tup [.str "like",.int day,.str p4,.int m2,iQ s,wv]) (.tup [.int Mp,.tup [.tup [.int 0,.str p]]]) rfl (by simp[sizeLine]) (by simp[sizeLine])))))))
 ·exact⟨_,[.int day,.str p4,.int Mp],av rfl (pre _ _ (aC (dn rfl) (aC (cW (p:=false) (q:=false) (dn rfl) λ_=>dn rfl) (bI (z9 true rfl) (az (aJ [.str "copy",.int day,.str p4,.int Mp] rfl (cu _ (by simp)))))))),.copy _ (.inl rfl) _ _ _,by decide +kernel⟩
 ·exact⟨_,[.int day,.str p4,.int Mp],av rfl (pre _ _ (aC (dn rfl) (aC (cW (p:=false) (q:=false) (dn rfl) λ_=>dn rfl) (bI (z9 true rfl) (az (aJ [.str "call",.int day,.str p4,.int Mp] rfl (cu _ (by simp)))))))),.copy _ (.inr rfl) _ _ _,by decide +kernel⟩
 ·exact⟨_,[.int day,.str Sc,.str p],av rfl (pre _ _ (aC (dn rfl) (aC (cW (p:=false) (q:=false) (dn rfl) λ_=>dn rfl) (aC (z9 false rfl) (bI (Bw rfl) (az (aJ [.str "named",.int day,.str Sc,.str p] (cq rfl (cq rfl (aE (Se _ rfl rfl) (cq rfl rfl)))) (cu _ (by simp))))))))),.named _ _ _,by decide +kernel⟩
 ·exact⟨_,[.int day,.str p4],av rfl (pre _ _ (aC (dn rfl) (aC (cW (p:=false) (q:=false) (dn rfl) λ_=>dn rfl) (aC (z9 false rfl) (aC (dn rfl) (aC (dn rfl) (aC (dn rfl) (az (aJ [.str "death",.int day,.str p4] rfl (cu _ (by simp))))))))))),.three _ (.inl rfl) _ _,by decide +kernel⟩
 ·exact⟨_,[.int day,.str p4],av rfl (pre _ _ (aC (dn rfl) (aC (cW (p:=false) (q:=false) (dn rfl) λ_=>dn rfl) (aC (z9 false rfl) (aC (dn rfl) (aC (dn rfl) (aC (dn rfl) (az (aJ [.str "lost",.int day,.str p4] rfl (cu _ (by simp))))))))))),.three _ (.inr (.inl rfl)) _ _,by decide +kernel⟩
 ·exact⟨_,[.int day,.str p4],av rfl (pre _ _ (aC (dn rfl) (aC (cW (p:=false) (q:=false) (dn rfl) λ_=>dn rfl) (aC (z9 false rfl) (aC (dn rfl) (aC (dn rfl) (aC (dn rfl) (az (aJ [.str "found",.int day,.str p4] rfl (cu _ (by simp))))))))))),.three _ (.inr (.inr rfl)) _ _,by decide +kernel⟩
 ·refine⟨_,[.int day,.str p4,.str Sd,.str p,.int (day+o / 32 % 3*m)],av rfl (pre _ _ (aC (dn rfl) (aC (cW (p:=false) (q:=false) (dn rfl) λ_=>dn rfl) (aC (z9 false rfl) (aC (dn rfl) (bI (Bw rfl) (az (aJ [.str "chosen",.int day,.str p4,.str Sd,.str p,.int (day+o / 32 % 3*m)] ?_ (cu _ (by simp)))))))))),.chosen _ _ _ _ _,by decide +kernel⟩;exact cq rfl (cq rfl (cq rfl (aE (bB (.lst (zs.map .str)) (.int (5+o % 2)) rfl (by simp) Z0) (cq rfl (cq (bB (.int day) (.int (o / 32 % 3*m)) rfl (bB (.int (o / 32 % 3)) (.int m) (by simp) rfl (o5 (by omega))) rfl) rfl)))))
 ·exact⟨_,[.int day,.str p4,.str Sc,.str p],av rfl (pre _ _ (aC (dn rfl) (aC (cW (p:=false) (q:=false) (dn rfl) λ_=>dn rfl) (aC (z9 false rfl) (aC (dn rfl) (aC (dn rfl) (bI (Bw rfl) (az (aJ [.str "heir",.int day,.str p4,.str Sc,.str p] (cq rfl (cq rfl (cq rfl (aE (Se _ rfl rfl) (cq rfl rfl))))) (cu _ (by simp))))))))))),.heir _ _ _ _,by decide +kernel⟩
def c9 (r:D):Prop:=∃h k aF,r=row h k aF/\Dd k aF
theorem c9.c (g:c9 r):xg r:=by obtain⟨h,k,aF,e,d⟩:=g;exact⟨h,k,aF,e,d.cd⟩
theorem c9.flat (g:c9 r):bg r=true:=g.c.rp.flat
theorem Kx (p:Prop)[Decidable p]:tu [.bl (decide p)]=sF (.int (if p then 1 else 0)):=by show some (D.int (if decide p=true then 1 else 0),false)=_;simp only[decide_eq_true_eq]
theorem Rb (c1 m most:Int)(xs zs iO:List Str)(ns:List Int)(ab:List D)(hz:zs.length=7)(i:Nat)(hi:i<2)(hr:ab.length<=100)(hh:iO.length<=100)(v8 v9 Aj p5:Option (D×Bool)):
  ∃r1 r2 p w8 w9 Vq IA,(c9 r1/\bd r1=true/\zs[5+i]? = some (a7 0 r1))/\(c9 r2/\bd r2=false)/\oq [sF (.lst (ns.map .int)),sF (.lst (zs.map .str)),sF (.int m),sF (.int most),sF (.int c1),some (.lst ab,true),some (.lst (iO.map .str),true),sF (.int i),v8,v9,Aj,p5,none,none,none]
   = some (.nx [sF (.lst (ns.map .int)),sF (.lst (zs.map .str)),sF (.int m),sF (.int most),sF (.int c1),some (.lst (ab++[r1]++[r2]),true),some (.lst ((iO++[p]).map .str),true),sF (.int i),w8,w9,Vq,IA,none,none,none]):=by
 have h3:=mod_lt (x:=c1 / (64+9*i)) (m:=3) (by decide);obtain⟨rl,_,Z1⟩:=kT (zs:=[("open" : Str),("first" : Str),("last" : Str)]) (i:=c1 / (64+9*i) % 3) (by simp;omega) (by simp;omega);have h4:=mod_lt (x:=c1 / (2+8*i)) (m:=4) (by decide);obtain⟨Z2,Sf,Vr⟩:=nI (ns:=[7,255,3,15]) (i:=c1 / (2+8*i) % 4) h4.1 h4.2;obtain⟨mt,Vs,Z3⟩:∃mt:Nat,Z2=mt/\mt∈MR:=by
  simp only[List.mem_cons,List.not_mem_nil,or_false]at Sf;rcases Sf with rfl|rfl|rfl|rfl<;>first|exact⟨7,rfl,by decide⟩|exact⟨255,rfl,by decide⟩|exact⟨3,rfl,by decide⟩|exact⟨15,rfl,by decide⟩
 have Xf:=Vr;rw[Vs]at Xf;have SR:=mod_lt (x:=c1 / (31+i)) (m:=3) (by decide);obtain⟨dv,Vn,ed⟩:=nI (ns:=[5,5,10]) (i:=c1 / (31+i) % 3) SR.1 SR.2;have P4:0<dv:=by simp only[List.mem_cons,List.not_mem_nil,or_false]at Vn;omega
 obtain⟨of,Z4,Xg⟩:∃of,zs[5+i]? = some of/\bP (.lst (zs.map .str)) (.int (5+i))=sF (.str of):=by
  have hl:5+i<zs.length:=by omega
  refine⟨zs[5+i],vU hl,?_⟩;have Dj:((5:Int)+i).toNat<(zs.map D.str).length:=by rw[vI];omega
  rw[DL.Bj (by omega) Dj,show((5:Int)+i).toNat=5+i by omega,vF,vA,vU hl];rfl
 obtain⟨pn,_,Xh⟩:=kT (zs:=zs) (i:=i) (by omega) (by omega);have Z5:(0:Int)<64+9*i/\(64:Int)+9*i<1073741824:=by omega
 have b2:(0:Int)<2+8*i/\(2:Int)+8*i<1073741824:=by omega
 have Vt:(0:Int)<512+i/\(512:Int)+i<1073741824:=by omega
 have Sg:(0:Int)<1024+5*i/\(1024:Int)+5*i<1073741824:=by omega
 have Z6:(0:Int)<31+i/\(31:Int)+i<1073741824:=by omega
 let t:Int:=if c1 / (512+i) % 8=1 then 1 else 0;have ht:0<=t/\t<=1:=by show 0<=(if _ then (1:Int)else 0)/\(if _ then (1:Int)else 0)<=1;split<;>omega
 refine⟨row (t*4*m) ("root" : Str) [.str of,.int mt,.int (c1 / (1024+5*i) % dv),.str rl],row 0 ("named" : Str) [.int 0,.str of,.str pn],pn,sF (.str rl),sF (.int mt),sF (.int (t*4*m)),sF (.int (c1 / (1024+5*i) % dv)),⟨⟨_,_,_,rfl,.root _ _ _ Z3 _⟩,decide_eq_true rfl,Z4⟩,⟨⟨_,_,_,rfl,.named _ _ _⟩,show decide (("named" : Str)=("root" : Str))=false by decide +kernel⟩,?_⟩;refine gd (.str rl) ?_ rfl (gd (.int mt) ?_ rfl (gd (.int (t*4*m)) ?_ rfl (gd (.int (c1 / (1024+5*i) % dv)) ?_ rfl (LP (ds:=ab) (d:=row (t*4*m) ("root" : Str) [.str of,.int mt,.int (c1 / (1024+5*i) % dv),.str rl]) (b:=false) rfl ?_ rfl (bD (by omega)) (LP (ds:=ab++[row (t*4*m) ("root" : Str) [.str of,.int mt,.int (c1 / (1024+5*i) % dv),.str rl]]) (d:=row 0 ("named" : Str) [.int 0,.str of,.str pn]) (b:=false) rfl ?_ rfl (bD (by simp;omega)) ((gX (ds:=iO.map .str) (d:=.str pn) (b:=false) rfl ?_ rfl (bD (by simp;omega))).trans ?_))))))
 ·exact iS (x:=.lst (([("open" : Str),("first" : Str),("last" : Str)]:List Str).map .str)) (y:=.int (c1 / (64+9*i) % 3)) (b1:=true) (b2:=false) (by simp[sizeLine]) (by simp[Z5]) Z1
 ·exact iS (x:=.lst (([7,255,3,15]:List Int).map .int)) (y:=.int (c1 / (2+8*i) % 4)) (b1:=true) (b2:=false) (by simp[sizeLine]) (by simp[b2]) Xf
 ·refine bB (.int (t*4)) (.int m) (bB (.int t) (.int 4) ?_ rfl (by simp)) rfl (o5 (by omega));refine aJ [.bl (decide (c1 / (512+i) % 8=1))] (cq (bB (.int (c1 / (512+i) % 8)) (.int 1) (by simp[Vt]) rfl (by simp)) rfl) ?_;simp[t]
 ·refine bB (.int (c1 / (1024+5*i))) (.int dv) (by simp[Sg]) (iS (x:=.lst (([5,5,10]:List Int).map .int)) (y:=.int (c1 / (31+i) % 3)) (b1:=true) (b2:=false) (by simp[sizeLine]) (by simp[Z6]) ed) ?_;show(if decide ((0:Int)<dv)=true then _ else _)=_;rw[if_pos (decide_eq_true P4)]
 ·refine aJ [.int (t*4*m),.tup [.str "root",.str of,.int mt,.int (c1 / (1024+5*i) % dv),.str rl]] (cq rfl (cq (aJ [.str "root",.str of,.int mt,.int (c1 / (1024+5*i) % dv),.str rl] (cq rfl (aE (bB (.lst (zs.map .str)) (.int (5+i)) rfl (by simp) Xg) (cq rfl (cq rfl (cq rfl rfl))))) (cu _ (by simp))) rfl)) (cu _ (by simp))
 ·refine aJ [.int 0,.tup [.str "named",.int 0,.str of,.str pn]] (cq rfl (cq (aJ [.str "named",.int 0,.str of,.str pn] (cq rfl (cq rfl (aE (bB (.lst (zs.map .str)) (.int (5+i)) rfl (by simp) Xg) (aE (bB (.lst (zs.map .str)) (.int i) rfl rfl Xh) rfl)))) (cu _ (by simp))) rfl)) (cu _ (by simp))
 ·exact bB (.lst (zs.map .str)) (.int i) rfl rfl Xh
 ·simp
noncomputable def lK (ab:List D):List Str:=(ab.filter bd).map (a7 0)
theorem o6 (ab:List D)(r:D):lK (ab++[r])=lK ab++if bd r=true then [a7 0 r]else []:=by
 unfold lK;rw[List.filter_append,uW,List.filter_cons];split
 ·rename_i h;rfl
 ·rename_i h;rfl
theorem Rc (c1 m most:Int)(zs iO:List Str)(ns:List Int)(ab:List D)(hz:zs.length=7)(i:Nat)(hi:i<100)(hr:ab.length<=200)(hh:iO≠[])(hh2:iO.length<=200)(v8 v9 Aj p5 pW sW Sh:Option (D×Bool)):
  ∃r1 sR Mq Ih Tg,(c9 r1/\bd r1=false)/\sR≠[]/\sR.length<=iO.length+1/\ot [sF (.lst (ns.map .int)),sF (.lst (zs.map .str)),sF (.int m),sF (.int most),sF (.int c1),some (.lst ab,true),some (.lst (iO.map .str),true),sF (.int i),v8,v9,Aj,p5,pW,sW,Sh]
   = some (.nx [sF (.lst (ns.map .int)),sF (.lst (zs.map .str)),sF (.int m),sF (.int most),sF (.int c1),some (.lst (ab++[r1]),true),some (.lst (sR.map .str),true),sF (.int i),v8,v9,Aj,p5,Mq,Ih,Tg]):=by
 obtain⟨ca,Z7,ca0⟩:=ie ns (5+i);obtain⟨cb,Z8,cb0⟩:=ie ns (30+i);obtain⟨cc,Z9,cc0⟩:=ie ns (60+i);have h3:=mod_lt (x:=ca / 7) (m:=3) (by decide);obtain⟨day,xF⟩:∃day:Int,((i:Int) / 2+ca / 7 % 3)*m=day:=⟨_,rfl⟩;obtain⟨k,r,ed,hD,OH⟩:=Kw ab.length cb cc day m zs iO hz hh;have ZA:=λh=>hD.had3 h;have ZB:=λh=>hD.had4 h;have h6:=mod_lt (x:=ca / 21) (m:=6) (by decide);obtain⟨tv,ZC,ZD⟩:=nI (ns:=[0,0,0,0,1,4]) (i:=ca / 21 % 6) h6.1 h6.2;have UQ : -1000<=tv/\tv<=1000:=by simp only[List.mem_cons,List.not_mem_nil,or_false]at ZC;omega
 have Rn:bg (.tup (.str k::r))=true:=by simp[hD.flat]
 have e4:∀(ρ:DL.Env),ρ[14]? = some (sF (.tup (.str k::r)))->dQ 14 0 ρ=sF (.str k):=λρ h=>bB (.tup (.str k::r)) (.int 0) (by simp[h]) rfl (by simp[Iv]);have e1:∀(b:Bool),decide (k=("leave" : Str)∨k=("named" : Str))=b->bo (f2 oH (dQ 14 0) (fA aS (af (fS ("leave" : Str)) (af (fS ("named" : Str)) aj)))) [sF (.lst (ns.map .int)),sF (.lst (zs.map .str)),sF (.int m),sF (.int most),sF (.int c1),some (.lst ab,true),some (.lst (iO.map .str),true),sF (.int i),v8,v9,Aj,p5,sF (.int ca),sF (.int day),sF (.tup (.str k::r))]=some b:=λb hb=>cS (bB (.str k) (.tup (([("leave" : Str),("named" : Str)]:List Str).map .str)) (e4 _ rfl) (by simp[sizeLine]) (by rw[iE,←hb];simp));have at_:∀(j:Nat)(p:Str),r[j]? = some (.str p)->∀ρ:DL.Env,ρ[14]? = some (sF (.tup (.str k::r)))->f2 bP (ai 14) (fC (.int ((j+1:Nat):Int))) ρ=sF (.str p):=λj p hp ρ hρ=>by
  have hl:j<r.length:=(vV hp).1;refine bB (.tup (.str k::r)) (.int ((j+1:Nat):Int)) (by simp[hρ]) rfl ?_;rw[DL.A0 (by omega) (by simp;omega),show((j+1:Nat):Int).toNat=j+1 by omega,vF];show some ((r[j]?).getD .non,false)=_;rw[hp];rfl
 obtain⟨sR,Vu,Si,ZE⟩:∃sR:List Str,sR≠[]/\sR.length<=iO.length+1/\∀(h:FS)(rr:Option Res),h [sF (.lst (ns.map .int)),sF (.lst (zs.map .str)),sF (.int m),sF (.int most),sF (.int c1),some (.lst ab,true),some (.lst (sR.map .str),true),sF (.int i),v8,v9,Aj,p5,sF (.int ca),sF (.int day),sF (.tup (.str k::r))]=rr->a9 (eM (bo (f2 oH (dQ 14 0) (fA aS (af (fS ("leave" : Str)) (af (fS ("named" : Str)) aj))))) (js 6 (dQ 14 3)) bp) (a9 (eM (bo (f2 dJ (dQ 14 0) (fS ("chosen" : Str)))) (js 6 (dQ 14 4)) bp) h) [sF (.lst (ns.map .int)),sF (.lst (zs.map .str)),sF (.int m),sF (.int most),sF (.int c1),some (.lst ab,true),some (.lst (iO.map .str),true),sF (.int i),v8,v9,Aj,p5,sF (.int ca),sF (.int day),sF (.tup (.str k::r))]=rr:=by
  by_cases hx:k=("leave" : Str)∨k=("named" : Str)
  ·obtain⟨p,hp⟩:=ZA hx;have RF:k≠("chosen" : Str):=by rcases hx with rfl|rfl<;>decide +kernel
   refine⟨iO++[p],by simp,by simp,λh rr hr=>dh (l7 (e1 true (decide_eq_true hx)) (gX (ds:=iO.map .str) (d:=.str p) (b:=false) rfl (at_ 2 p hp _ rfl) rfl (bD (by simp;omega)))) (aC (bW (a:=k) (bb:=false) (e4 _ rfl) (decide_eq_false RF)) ?_)⟩;rw[uW]at hr;exact hr
  ·by_cases hy:k=("chosen" : Str)
   ·obtain⟨p,hp⟩:=ZB hy;refine⟨iO++[p],by simp,by simp,λh rr hr=>aC (e1 false (decide_eq_false hx)) (dh (l7 (bW (a:=k) (bb:=false) (e4 _ rfl) (decide_eq_true hy)) (gX (ds:=iO.map .str) (d:=.str p) (b:=false) rfl (at_ 3 p hp _ rfl) rfl (bD (by simp;omega)))) ?_)⟩;rw[uW]at hr;exact hr
   ·exact⟨iO,hh,by omega,λh rr hr=>aC (e1 false (decide_eq_false hx)) (aC (bW (a:=k) (bb:=false) (e4 _ rfl) (decide_eq_false hy)) hr)⟩
 refine⟨row (day+tv*m) k r,sR,sF (.int ca),sF (.int day),sF (.tup (.str k::r)),⟨⟨_,_,_,rfl,hD⟩,decide_eq_false OH⟩,Vu,Si,?_⟩;refine gd (.int ca) (aJ [.lst (ns.map .int),.int ((5+i:Nat):Int)] (by simp) Z7) rfl (gd (.int day) ?_ rfl (gd (.tup (.str k::r)) ?_ Rn (ZE _ _ ((gX (ds:=ab) (d:=row (day+tv*m) k r) (b:=false) rfl ?_ (by simp[row,hD.flat]) (bD (by omega))).trans ?_))))
 ·refine bB (.int ((i:Int) / 2+ca / 7 % 3)) (.int m) (by simp) rfl ?_;rw[←xF];exact o5 (by omega)
 ·refine aJ [.int ab.length,.int cb,.int cc,.lst (zs.map .str),.int day,.lst (iO.map .str),.int m] (cq (by simp) (aE (aJ [.lst (ns.map .int),.int ((30+i:Nat):Int)] (by simp) Z8) (aE (aJ [.lst (ns.map .int),.int ((60+i:Nat):Int)] (by simp) Z9) (cq rfl (cq rfl (cq rfl (cq rfl rfl))))))) ed
 ·refine aJ [.int (day+tv*m),.tup (.str k::r)] (cq (bB (.int day) (.int (tv*m)) rfl (bB (.int tv) (.int m) (iS (x:=.lst (([0,0,0,0,1,4]:List Int).map .int)) (y:=.int (ca / 21 % 6)) (b1:=true) (b2:=false) (by simp[sizeLine]) (by simp) ZD) rfl (o5 UQ)) rfl) (cq rfl rfl)) (cu _ (by simp))
 ·simp
theorem Ky (ns:List Int)(zs:List Str)(hz:zs.length=7)(m:Int):∃ab:List D,rF [.lst (ns.map .int),.lst (zs.map .str),.int m,.int 14]=sF (.tup ab)/\(∀r∈ab,c9 r)/\ab.length<=24/\lK ab=(zs.drop 5).take (lK ab).length:=by
 obtain⟨c1,e1,h1⟩:=ie ns 1;obtain⟨c2,e2,h2⟩:=ie ns 2;have Px:=mod_lt (x:=c1) (m:=2) (by decide);have Te:=mod_lt (x:=c2) (m:=14) (by decide);obtain⟨n1,Td⟩:∃n1:Nat,1+c1 % 2=n1:=⟨(1+c1 % 2).toNat,by omega⟩;obtain⟨n2,Vv⟩:∃n2:Nat,3+c2 % 14=n2:=⟨(3+c2 % 14).toNat,by omega⟩;obtain⟨ρ1,f1,Mr,Sj,u7,u8,u9,Vw,Vx,rfl,g1,l1,k1,o1⟩:=j4 (tg:=dq 7) (g:=oq) n1 (λi ρ=>∃(ab:List D)(iO:List Str)(v7 v8 v9 Aj p5:Option (D×Bool)),ρ=[sF (.lst (ns.map .int)),sF (.lst (zs.map .str)),sF (.int m),sF (.int 14),sF (.int c1),some (.lst ab,true),some (.lst (iO.map .str),true),v7,v8,v9,Aj,p5,none,none,none]/\(∀r∈ab,c9 r)/\ab.length=2*i/\iO.length=i/\lK ab=(zs.drop 5).take i)
  [sF (.lst (ns.map .int)),sF (.lst (zs.map .str)),sF (.int m),sF (.int 14),sF (.int c1),some (.lst [],true),some (.lst [],true),none,none,none,none,none,none,none,none] ⟨[],[],none,none,none,none,none,rfl,by simp,rfl,rfl,rfl⟩ (by
   rintro i ρ hi ⟨ab,iO,v7,v8,v9,Aj,p5,rfl,g,l,k,o⟩;obtain⟨r1,r2,p,w8,w9,Vq,IA,q1,q2,e⟩:=Rb c1 m 14 [] zs iO ns ab hz i (by omega) (by omega) (by omega) v8 v9 Aj p5;refine⟨_,_,rfl,.inl e,ab++[r1]++[r2],iO++[p],_,w8,w9,Vq,IA,rfl,?_,by simp;omega,by simp[k],by rw[o6,o6,if_pos q1.2.1,if_neg (by rw[q2.2];decide),uQ,o,List.take_add_one,List.getElem?_drop,q1.2.2];rfl⟩;intro r hr;simp only[List.mem_append,List.mem_singleton]at hr;rcases hr with (hr|rfl)|rfl
   ·exact g r hr
   ·exact q1.1
   ·exact q2.1)
 obtain⟨ρ2,ZF,Ms,ZG,w7,Mq,Ih,Tg,rfl,g2,l2,k2,k3,o2⟩:=j4 (tg:=dq 7) (g:=ot) n2 (λi ρ=>∃(ab:List D)(iO:List Str)(v7 pW sW Sh:Option (D×Bool)),ρ=[sF (.lst (ns.map .int)),sF (.lst (zs.map .str)),sF (.int m),sF (.int 14),sF (.int c1),some (.lst ab,true),some (.lst (iO.map .str),true),v7,u8,u9,Vw,Vx,pW,sW,Sh]/\(∀r∈ab,c9 r)/\ab.length=2*n1+i/\iO≠[]/\iO.length<=n1+i/\lK ab=(zs.drop 5).take n1)
  [sF (.lst (ns.map .int)),sF (.lst (zs.map .str)),sF (.int m),sF (.int 14),sF (.int c1),some (.lst Mr,true),some (.lst (Sj.map .str),true),u7,u8,u9,Vw,Vx,none,none,none] ⟨Mr,Sj,u7,none,none,none,rfl,g1,by omega,λe=>by rw[e]at k1;simp at k1;omega,by omega,o1⟩ (by
   rintro i ρ hi ⟨ab,iO,v7,pW,sW,Sh,rfl,g,l,k,k',o⟩;obtain⟨r1,sR,Mq,Ih,Tg,q1,q2,q3,e⟩:=Rc c1 m 14 zs iO ns ab hz i (by omega) (by omega) k (by omega) u8 u9 Vw Vx pW sW Sh;refine⟨_,_,rfl,.inl e,ab++[r1],sR,_,Mq,Ih,Tg,rfl,?_,by simp;omega,q2,by omega,by rw[o6,if_neg (by rw[q1.2];decide),uQ,o]⟩;intro r hr;simp only[List.mem_append,List.mem_singleton]at hr;rcases hr with hr|rfl
   ·exact g r hr
   ·exact q1.1)
 refine⟨Ms,av rfl (gd (.int c1) (aJ [.lst (ns.map .int),.int ((1:Nat):Int)] (by simp) e1) rfl (cx (ds:=[]) (by simp[sizeLine]) rfl (cx (ds:=[]) (by simp[sizeLine]) rfl (dh (j5 (gt (j:=n1) (b:=false) (by simp;omega) (by omega)) f1) (dh (j5 (gt (j:=n2) (b:=false) ?_ (by omega)) ZF) (az (by simp))))))),g2,by omega,?_⟩
 ·refine bB (.int 3) (.int (c2 % 14)) rfl (bB (.int c2) (.int 14) (aJ [.lst (ns.map .int),.int ((2:Nat):Int)] (by simp) e2) rfl (by simp)) ?_;rw[←Vv];rfl
 ·have hl:(lK Ms).length<=n1:=by rw[o2,List.length_take];omega
  rw[o2,List.length_take];congr 1;rw[List.length_drop];omega
theorem vn (a b:Nat):iC [.int a,.int b]=sF (.bl (decide (a &&& b=b))):=by
 have:Builtin.bitAnd (a:Int) (b:Int)=((a &&& b:Nat):Int):=by simp[Builtin.bitAnd]
 simp[iC,rz,this];omega
def jl (r:D):Nat:=(if kindOf r=("root" : Str)then iI 1 r else if kindOf r=("leave" : Str)then iI 3 r else iI 2 r).toNat
theorem fW (a:Int)(k:Str)(aF:List D):kindOf (row a k aF)=k:=rfl
noncomputable def eZ:List Str:=[("leave" : Str),("paper" : Str),("like" : Str)]
theorem sj (g:c9 r)(h:bd r=true):∃a o rl,∃m:Nat,∃f:Int,r=row a ("root" : Str) [.str o,.int m,.int f,.str rl]/\m∈MR/\jl r=m:=by
 obtain⟨a,k,aF,rfl,d⟩:=g;have hk:k=("root" : Str):=of_decide_eq_true h;clear h;cases d with
 |root o rl m hm f=>exact⟨a,o,rl,m,f,rfl,hm,by unfold jl;rw[fW,if_pos rfl];rfl⟩
 |named=>exact absurd hk (by decide +kernel)
 |chosen=>exact absurd hk (by decide +kernel)
 |heir=>exact absurd hk (by decide +kernel)
 |three k fP=>rcases fP with rfl|rfl|rfl<;>exact absurd hk (by decide +kernel)
 |leave=>exact absurd hk (by decide +kernel)
 |paper k fP=>rcases fP with rfl|rfl<;>exact absurd hk (by decide +kernel)
 |copy k fP=>rcases fP with rfl|rfl<;>exact absurd hk (by decide +kernel)
theorem CQ (g:c9 r)(h:bd r=true):au [r,.str "matters"]=sF (.int (jl r)):=by
 obtain⟨a,o,rl,m,f,rfl,_,e⟩:=sj g h;rw[e];exact bw (i:=1) (bq (by decide +kernel)) rfl
theorem Og {a:Int}{k:Str}{aF:List D}(d:Dd k aF)(h:k∈eZ):jl (row a k aF)∈MS/\(∃i:Nat,pC hW (.str k) (.str "matters")=sF (.int i)/\aF[i]? = some (.int (jl (row a k aF))))/\(D.str k::aF).getD (3+if k=("leave" : Str)then 1 else 0) .non=.int (jl (row a k aF))/\(3+if k=("leave" : Str)then 1 else 0)<(D.str k::aF).length:=by
 cases d with
 |leave d b p m hm x f=>
  have e:jl (row a ("leave" : Str) [.int d,.str b,.str p,.int m,iQ x,.int f])=m:=by unfold jl;rw[fW,if_neg (by decide +kernel),if_pos rfl];rfl
  rw[e];refine⟨hm,⟨3,bq (by decide +kernel),rfl⟩,?_,?_⟩
  ·rw[if_pos rfl];rfl
  ·rw[if_pos rfl];simp
 |paper k hk d b m hm x r hf hp=>
  have hl:k≠("leave" : Str):=by rcases hk with rfl|rfl<;>decide +kernel
  have hr:k≠("root" : Str):=by rcases hk with rfl|rfl<;>decide +kernel
  have e:jl (row a k (.int d::.str b::.int m::iQ x::r))=m:=by unfold jl;rw[fW,if_neg hr,if_neg hl];rfl
  rw[e];refine⟨hm,⟨2,by rcases hk with rfl|rfl<;>exact bq (by decide +kernel),rfl⟩,?_,?_⟩
  ·rw[if_neg hl];rfl
  ·rw[if_neg hl];simp
 |root=>exact absurd h (by decide +kernel)
 |named=>exact absurd h (by decide +kernel)
 |chosen=>exact absurd h (by decide +kernel)
 |heir=>exact absurd h (by decide +kernel)
 |three k fP=>rcases fP with rfl|rfl|rfl<;>exact absurd h (by decide +kernel)
 |copy k fP=>rcases fP with rfl|rfl<;>exact absurd h (by decide +kernel)
theorem xo (g:c9 r)(h:kindOf r∈eZ):au [r,.str "matters"]=sF (.int (jl r)):=by
 obtain⟨a,k,aF,rfl,d⟩:=g;obtain⟨_,⟨i,h1,h2⟩,_⟩:=Og (a:=a) d h;exact bw h1 h2
noncomputable def bz:List Str:=[("leave" : Str),("paper" : Str),("like" : Str),("copy" : Str)]
theorem iK (h:k∈bz∨k=("call" : Str)):eD k=true:=by
 rw[rL];refine decide_eq_true ?_;rcases h with h|rfl
 ·have:∀k∈bz,k∈zq:=by decide +kernel
  exact this k h
 ·decide +kernel
theorem CS {k:Str}{aF:List D}(d:Dd k aF)(h:eD k=true):∃(dd:Int)(b:Str)(r:List D),aF=.int dd::.str b::r:=d.cd.deed.slg h
theorem CT (g:c9 r)(h:eD (kindOf r)=true):au [r,.str "by"]=sF (.str (dj r)):=by
 obtain⟨a,k,aF,rfl,d⟩:=g;obtain⟨dd,b,q,rfl⟩:=CS d h;exact bw (i:=1) (GX h) rfl
noncomputable def bS (K:KL):List D:=(K.filter λx=>bd x.1).map (·.1)
theorem sk:∀(l:List (cA×D))(a:List cA×List D),(a.1++l.map (·.1)).Nodup->l.foldl qK a=(a.1++l.map (·.1),a.2++l.map (·.2))
 |[],a,_=>by simp
 |p::l,a,h=>by
  have hn:p.1∉a.1:=by
   rw[uY,List.nodup_append]at h;exact λz=>h.2.2 _ z _ mX rfl
  have e:qK a p=(a.1++[p.1],a.2++[p.2]):=by unfold qK dO dP;rw[if_neg hn,if_neg hn]
  rw[List.foldl_cons,e,sk l _ (by rw[List.append_assoc];exact h)];simp
section
variable {K:KL}(hn:((bS K).map (a7 0)).Nodup)
include hn
theorem sn:bX (nE K)=((bS K).map λv=>(.inr (a7 0 v):cA),bS K):=by
 have e:nE K=(bS K).map λv=>((.inr (a7 0 v):cA),v):=by unfold nE bS;rw[uP];rfl
 have Vv:((bS K).map λv=>(.inr (a7 0 v):cA)).Nodup:=by
  refine List.pairwise_map.mpr ((List.pairwise_map.mp hn).imp λh z=>h (Sum.inr.inj z))
 rw[e];unfold bX;rw[sk _ _ (by rw[uP];exact Vv),uP,uP];simp only[List.nil_append];congr 1;exact List.map_id _
end
noncomputable def Kz (j:Nat):D->Int×Option Int
 |.tup [_,.tup (_::aF)]=>match aF[j]? with
  |some (.tup [.int s,.int u])=>(s,some u)
  |some (.tup [.int s,.non])=>(s,none)
  |_=>(0,none)
 |_=>(0,none)
theorem xp {h:Int}{k:Str}{aF:List D}{j:Nat}{x:Int×Option Int}(e:aF[j]? = some (iQ x)):Kz j (row h k aF)=x:=by
 unfold Kz row;simp only[e];obtain⟨s,u⟩:=x;cases u<;>rfl
def iL (r:D):Int×Option Int:=if kindOf r=("leave" : Str)then Kz 4 r else Kz 3 r
def jC (r:D):Int:=if kindOf r=("root" : Str)then iI 2 r else iI 5 r
def o7 (r:D):Bool:=decide (kindOf r=("leave" : Str))
theorem pw {r:D}(g:c9 r)(h:kindOf r=("leave" : Str)):∃a d b p,∃m:Nat,∃x f,r=row a ("leave" : Str) [.int d,.str b,.str p,.int m,iQ x,.int f]/\m∈MS/\jl r=m/\iL r=x/\jC r=f:=by
 obtain⟨a,k,aF,rfl,d⟩:=g;have hk:k=("leave" : Str):=h;clear h;cases d with
 |leave d b p m hm x f=>exact⟨a,d,b,p,m,x,f,rfl,hm,by unfold jl;rw[fW,if_neg (by decide +kernel),if_pos rfl];rfl,by unfold iL;rw[fW,if_pos rfl];exact xp rfl,by unfold jC;rw[fW,if_neg (by decide +kernel)];rfl⟩
 |root=>exact absurd hk (by decide +kernel)
 |named=>exact absurd hk (by decide +kernel)
 |chosen=>exact absurd hk (by decide +kernel)
 |heir=>exact absurd hk (by decide +kernel)
 |three k fP=>rcases fP with rfl|rfl|rfl<;>exact absurd hk (by decide +kernel)
 |paper k fP=>rcases fP with rfl|rfl<;>exact absurd hk (by decide +kernel)
 |copy k fP=>rcases fP with rfl|rfl<;>exact absurd hk (by decide +kernel)
theorem K0 {a:Int}{k:Str}{aF:List D}(d:Dd k aF)(h:k∈eZ):(∃i:Nat,pC hW (.str k) (.str "stretch")=sF (.int i)/\aF[i]? = some (iQ (iL (row a k aF))))/\(D.str k::aF).getD (4+if k=("leave" : Str)then 1 else 0) .non=iQ (iL (row a k aF))/\(4+if k=("leave" : Str)then 1 else 0)<(D.str k::aF).length:=by
 cases d with
 |leave d b p m hm x f=>
  have e:iL (row a ("leave" : Str) [.int d,.str b,.str p,.int m,iQ x,.int f])=x:=by unfold iL;rw[fW,if_pos rfl];exact xp rfl
  rw[e,if_pos rfl];exact⟨⟨4,bq (by decide +kernel),rfl⟩,rfl,by simp⟩
 |paper k hk d b m hm x r hf hp=>
  have hl:k≠("leave" : Str):=by rcases hk with rfl|rfl<;>decide +kernel
  have e:iL (row a k (.int d::.str b::.int m::iQ x::r))=x:=by unfold iL;rw[fW,if_neg hl];exact xp rfl
  rw[e,if_neg hl];exact⟨⟨3,by rcases hk with rfl|rfl<;>exact bq (by decide +kernel),rfl⟩,rfl,by simp⟩
 |root=>exact absurd h (by decide +kernel)
 |named=>exact absurd h (by decide +kernel)
 |chosen=>exact absurd h (by decide +kernel)
 |heir=>exact absurd h (by decide +kernel)
 |three k fP=>rcases fP with rfl|rfl|rfl<;>exact absurd h (by decide +kernel)
 |copy k fP=>rcases fP with rfl|rfl<;>exact absurd h (by decide +kernel)
theorem CU (g:c9 r)(h:kindOf r∈eZ):au [r,.str "stretch"]=some (iQ (iL r),false):=by
 obtain⟨a,k,aF,rfl,d⟩:=g;obtain⟨⟨i,h1,h2⟩,_⟩:=K0 (a:=a) d h;exact bw h1 h2
theorem xq (h:kindOf r=("leave" : Str)):kindOf r∈eZ:=by rw[h];decide +kernel
theorem LX (g:c9 r)(h:bd r=true∨kindOf r=("leave" : Str)):au [r,.str "further"]=sF (.int (jC r)):=by
 rcases h with h|h
 ·obtain⟨a,o,rl,m,f,rfl,_,_⟩:=sj g h;rw[show jC (row a ("root" : Str) [.str o,.int m,.int f,.str rl])=f by unfold jC;rw[fW,if_pos rfl];rfl];exact bw (i:=2) (bq (by decide +kernel)) rfl
 ·obtain⟨a,d,b,p,m,x,f,e,_,_,_,ef⟩:=pw g h;rw[ef,e];exact bw (i:=5) (bq (by decide +kernel)) rfl
def sr (r v:D):Bool:=decide (jl v &&& jl r=jl r) && !(o7 r && decide (jC v<=jC r))
theorem zA (gr:c9 r)(gv:c9 v)(kr:kindOf r∈eZ)(kv:bd v=true∨kindOf v=("leave" : Str)):∃d,iW [r,v]=some (d,false)/\EM d .non=sF (.bl (sr r v)):=by
 have ZH:au [v,.str "matters"]=sF (.int (jl v)):=kv.elim (CQ gv) λh=>xo gv (xq h);have t1:bo (fA iC (af (fA au (fV 1 (af (fS ("matters" : Str)) aj))) (af (fA au (fV 0 (af (fS ("matters" : Str)) aj))) aj))) [some (r,false),some (v,false)]=some (decide (jl v &&& jl r=jl r)):=cS (aJ [.int (jl v),.int (jl r)] (aE (aJ [v,.str "matters"] rfl ZH) (aE (aJ [r,.str "matters"] rfl (xo gr kr)) rfl)) (vn _ _));have t2:bo (f2 dJ (fA aM (fV 0 aj)) (fS ("leave" : Str))) [some (r,false),some (v,false)]=some (o7 r):=bW (a:=kindOf r) (bb:=false) (aJ [r] rfl (jk gr.c)) rfl;have t3:o7 r=true->bo (f2 T6 (fA au (fV 0 (af (fS ("further" : Str)) aj))) (fA au (fV 1 (af (fS ("further" : Str)) aj)))) [some (r,false),some (v,false)]=some (decide (jC v<=jC r)):=λh=>cS (bB (.int (jC r)) (.int (jC v)) (aJ [r,.str "further"] rfl (LX gr (.inr (of_decide_eq_true h)))) (aJ [v,.str "further"] rfl (LX gv kv)) rfl);have t4:=dD t2 t3;unfold sr;cases hA:decide (jl v &&& jl r=jl r) with
 |false=>exact⟨.str "matters",av rfl (bI (cy (p:=false) (t1.trans (by rw[hA]))) (az rfl)),rfl⟩
 |true=>
  cases hB:(o7 r && decide (jC v<=jC r)) with
  |true=>exact⟨.str "further",av rfl (aC (cy (p:=true) (t1.trans (by rw[hA]))) (bI (t4.trans (by rw[hB])) (az rfl))),rfl⟩
  |false=>exact⟨.non,av rfl (aC (cy (p:=true) (t1.trans (by rw[hA]))) (aC (t4.trans (by rw[hB])) (az rfl))),rfl⟩
theorem su (h:k∈eZ):k∈bz:=by
 have:∀k∈eZ,k∈bz:=by decide +kernel
 exact this k h
theorem jb (h:kindOf r∈eZ):bd r=false:=by
 have:∀k∈eZ,decide (k=("root" : Str))=false:=by decide +kernel
 exact this _ h
theorem sv (g:c9 r)(h:bd r=false):aP [r]=sF (.int (aA r)):=by
 have:=rM g.c;unfold t9 at this;rwa [h,if_neg (by decide)]at this
def tF (cs:List Cl)(r v:D):Bool:=ja cs (a7 0 v) (a7 3 v) (dj r) (aA r) && sr r v
theorem K1 (cs:List Cl)(xJ:cs.length<=60)(gr:c9 r)(gv:c9 v)(kr:kindOf r∈eZ)(hv:bd v=true):∃d,ib [.lst (cs.map aU),r,v]=some (d,false)/\EM d .non=sF (.bl (tF cs r v)):=by
 obtain⟨d,e1,e2⟩:=zA gr gv kr (.inl hv);have t1:bo (fA cQ (fV 0 (fV 2 (af (fA au (fV 1 (af (fS ("by" : Str)) aj))) (af (fA aP (fV 1 aj)) aj))))) [sF (.lst (cs.map aU)),some (r,false),some (v,false)]=some (ja cs (a7 0 v) (a7 3 v) (dj r) (aA r)):=by
  refine cS (aJ [.lst (cs.map aU),v,.str (dj r),.int (aA r)] (cq rfl (cq rfl (aE (aJ [r,.str "by"] rfl (CT gr (iK (.inl (su kr))))) (aE (aJ [r] rfl (sv gr (jb kr))) rfl)))) ?_);obtain⟨a,o,rl,m,f,rfl,_,_⟩:=sj gv hv;exact xi cs xJ _ _
 unfold tF;cases hA:ja cs (a7 0 v) (a7 3 v) (dj r) (aA r) with
 |false=>exact⟨.str "holder",av rfl (bI (cy (p:=false) (t1.trans (by rw[hA]))) (az rfl)),rfl⟩
 |true=>exact⟨d,av rfl (aC (cy (p:=true) (t1.trans (by rw[hA]))) (az (aJ [r,v] rfl e1))),e2⟩
def Hm (cs:List Cl)(r v:D):Int:=match ki cs (a7 0 v) (a7 3 v) (aA r) with
 |.tup [_,_,.int n]=>n
 |_=>0
theorem Hn (h:ja cs o rl p day=true):∃n:Int,ki cs o rl day=.tup [.str "one",.str p,.int n]:=by
 unfold ja ki at h;unfold ki;generalize Pf cs o day=al at h ⊢;cases al with
 |nil=>
  have h:bG (.tup [.str "none"]) (.tup [.str "one",.str p])=true:=h;simp[dB]at h
 |cons b r=>
  rw[pv]at h ⊢;split at h
  ·have h:bG (.tup [.str "parted",.lst ((mh (b::r)).map .str)]) (.tup [.str "one",.str p])=true:=h;simp[dB]at h
  ·rename_i hn;rw[if_neg hn];have h:bG (.tup [.str "one",.str (iH rl b r).p]) (.tup [.str "one",.str p])=true:=h;have h:(iH rl b r).p=p:=by simpa [dB]using h
   exact⟨_,by rw[h]⟩
theorem K2 (h:ja cs (a7 0 v) (a7 3 v) (dj r) (aA r)=true):ki cs (a7 0 v) (a7 3 v) (aA r)=.tup [.str "one",.str (dj r),.int (Hm cs r v)]:=by
 obtain⟨n,e⟩:=Hn h;unfold Hm;rw[e]
def Oh (cs:List Cl)(r v:D):D:=.tup [.str "office",.str (a7 0 v),.int (Hm cs r v)]
theorem sw (g:∀r∈ab,c9 r)(hv:v∈bS (ak ab aa)):c9 v/\bd v=true:=by
 obtain⟨x,hx,rfl⟩:=vO hv;obtain⟨h1,h2⟩:=vN hx;exact⟨g _ (vL (bC h1)),h2⟩
theorem Ho (hl:ab.length<=60)(aa:Int):(bS (ak ab aa)).length<=60:=by
 unfold bS;rw[vI];exact vR (vM _ _) (vR (c8 ab aa) hl)
theorem Eo {ab:List D}(g:∀r∈ab,c9 r)(hl:ab.length<=60)(aa:Int)(hn:((bS (ak ab aa)).map (a7 0)).Nodup)(cs:List Cl)(xJ:cs.length<=60){ri:Nat}{r:D}(hr:ab[ri]? = some r)(kr:kindOf r∈eZ):
  iD [.tup ab,.int aa,.lst (cs.map aU),.int ri]=some (.lst (((bS (ak ab aa)).filter (tF cs r)).map (Oh cs r)),true):=by
 have gC:gf ab:=⟨hl,λr hr=>(g r hr).c⟩;have gr:=g r (vL hr);have Sk:=Ho hl aa;have h1:=gO (fi:=qO (fA gF (fV 0 (fV 1 aj)))) (nT:=1) (cap:=[2,4]) (tg:=dq 0) (c:=bo (f2 EM (fA ib (fV 1 (fV 2 (fV 0 aj)))) (fC .non))) (fe:=ai 0)
  (ρ:=[sF (.tup ab),sF (.int aa),sF (.lst (cs.map aU)),sF (.int ri),some (r,false),none]) (bS (ak ab aa)) id (tF cs r) id
  (by show(fA gF _ _).bind _=_;rw[aJ [.tup ab,.int aa] rfl (rX gC aa),sn hn];simp) (by omega) λv hv=>by
   obtain⟨gv,Mo⟩:=sw g hv;obtain⟨d,e1,e2⟩:=K1 cs xJ gr gv kr Mo;exact⟨[some (v,false),sF (.lst (cs.map aU)),some (r,false)],rfl,cS (bB d .non (aJ [.lst (cs.map aU),r,v] rfl e1) rfl e2),λ_=>⟨false,rfl⟩⟩
 rw[List.map_id]at h1;have vz:b9 ((bS (ak ab aa)).filter (tF cs r))=true:=bV λv hv=>(sw g (vN hv).1).1.flat;refine av rfl (gd r (bB (.tup ab) (.int ri) rfl rfl (by simp[cK hr])) gr.flat (cx h1 vz (az ?_)));refine lG (fi:=cj (ai 5)) (nT:=1) (cap:=[2,4]) (tg:=dq 0) (fe:=fA aS (af (fS ("office" : Str)) (af (fA au (fV 0 (af (fS ("office" : Str)) aj))) (af (f2 bP (fA eA (fV 1 (fV 0 (af (fA aP (fV 2 aj)) aj)))) (fI 2)) aj))))
  (ρ:=[sF (.tup ab),sF (.int aa),sF (.lst (cs.map aU)),sF (.int ri),some (r,false),some (.lst ((bS (ak ab aa)).filter (tF cs r)),true)]) ((bS (ak ab aa)).filter (tF cs r)) id (Oh cs r) (by simp) (vR (vM _ _) (by omega)) λv hv=>?_
 obtain⟨ZI,ZJ⟩:=vN hv;obtain⟨gv,Mo⟩:=sw g ZI;have Xi:(ja cs (a7 0 v) (a7 3 v) (dj r) (aA r) && sr r v)=true:=ZJ;rw[vC]at Xi;have hh:=K2 Xi.1;refine⟨[some (v,false),sF (.lst (cs.map aU)),some (r,false)],rfl,false,?_⟩;obtain⟨a,o,rl,m,f,rfl,_,_⟩:=sj gv Mo;refine aJ [.str "office",.str o,.int (Hm cs r _)] (cq rfl (aE (aJ [row a ("root" : Str) [.str o,.int m,.int f,.str rl],.str "office"] rfl kR) (cq (bB (ki cs o rl (aA r)) (.int 2) (aJ [.lst (cs.map aU),row a ("root" : Str) [.str o,.int m,.int f,.str rl],.int (aA r)] (cq rfl (cq rfl (aE (aJ [r] rfl (sv gr (jb kr))) rfl))) (nD cs xJ _)) rfl ?_) rfl))) (cu _ (by simp));have hh:ki cs o rl (aA r)=_:=hh;rw[hh];simp[VP]
noncomputable def Hq (day:Int)(x:Int×Option Int):Bool:=decide (x.1<=day) && (match x.2 with|none=>true|some u=>decide (day<u))
noncomputable def Re:Option Int->Option Int->Bool
 |_,none=>true
 |none,some _=>false
 |some x,some y=>decide (x<=y)
theorem K3 (a b:Option Int):ji [uD a,uD b]=sF (.bl (Re a b)):=by
 cases b with
 |none=>exact av rfl (bI (cS (by simp[uD])) (az (by cases a<;>rfl)))
 |some y=>
  refine av rfl (aC (cS (by simp[uD])) (az ?_));cases a with
  |none=>exact dL (p:=false) (q:=false) (b1:=false) (by simp[uD]) (by simp)
  |some x=>exact dL (p:=true) (q:=decide (x<=y)) (b1:=false) (by simp[uD]) λ_=>by simp[uD]
def K4 (a b:Int×Option Int):Bool:=decide (b.1<=a.1) && Re a.2 b.2
theorem Oi (a b:Int×Option Int):iX [iQ a,iQ b]=sF (.bl (K4 a b)) :=
 av rfl (az (dL (b1:=false) (by simp[iQ,Iv]) λ_=>aJ [uD a.2,uD b.2] (cq (by simp[iQ,Iw]) (cq (by simp[iQ,Iw]) rfl)) (K3 _ _)))
theorem LY {ab:List D}{i:Nat}{r:D}(hr:ab[i]? = some r)(g:c9 r)(h:bd r=false):fE [.tup ab,.int i]=sF (.tup [.int (aA r),.int i]) :=
 av rfl (az (aJ [.int (aA r),.int i] (cq (aJ [r] (by simp[cK hr]) (sv g h)) rfl) (by simp[sizeLine])))
theorem Ub (a b c d:Int):M3 (.tup [.int a,.int b]) (.tup [.int c,.int d])=sF (.bl (decide (a<c∨(a=c/\b<d)))):=by
 show(aZ [.i a,.i b] [.i c,.i d]).map _=_;rw[Oe];rfl
theorem zB {ab:List D}{i j:Nat}{x y:D}(hx:ab[i]? = some x)(hy:ab[j]? = some y)(gx:c9 x)(gy:c9 y)(nx:bd x=false)(ny:bd y=false):gz [.tup ab,.int i,.int j]=sF (.bl (ge (x,i) (y,j))) :=
 av rfl (az (bB (.tup [.int (aA x),.int i]) (.tup [.int (aA y),.int j]) (aJ [.tup ab,.int i] rfl (LY hx gx nx)) (aJ [.tup ab,.int j] rfl (LY hy gy ny)) (Ub _ _ _ _)))
def By (r:D)(ri:Nat)(x:D×Nat):Bool:=ge x (r,ri) && ((Hq (aA r) (iL x.1) && K4 (iL r) (iL x.1)) && sr r x.1)
theorem K5 {ab:List D}{ri li:Nat}{r l:D}(hr:ab[ri]? = some r)(hl:ab[li]? = some l)(gr:c9 r)(gl:c9 l)(kr:kindOf r∈eZ)(kl:kindOf l=("leave" : Str)):∃d,iY [.tup ab,.int ri,.int li]=some (d,false)/\EM d .non=sF (.bl (By r ri (l,li))):=by
 have nr:=jb kr;have nl:=jb (xq kl);obtain⟨d,e1,e2⟩:=zA gr gl kr (.inr kl);let E:DL.Env:=[sF (.tup ab),sF (.int ri),sF (.int li),some (r,false),some (iQ (iL l),false)];have al:∀ρ:DL.Env,ρ[0]? = some (sF (.tup ab))->ρ[2]? = some (sF (.int li))->f2 bP (ai 0) (ai 2) ρ=some (l,false):=λρ h0 h2=>bB (.tup ab) (.int li) (by simp[h0]) (by simp[h2]) (by simp[cK hl]);have t1:bo (fA gz (fV 0 (fV 2 (fV 1 aj)))) E=some (ge (l,li) (r,ri)):=cS (aJ [.tup ab,.int li,.int ri] rfl (zB hl hr gl gr nl nr));have t2:bo (fA j6 (af (fA aP (fV 3 aj)) (fV 4 aj))) E=some (Hq (aA r) (iL l)):=cS (aJ [.int (aA r),iQ (iL l)] (aE (aJ [r] rfl (sv gr nr)) (cq rfl rfl)) (CH _ _ _));have t3:bo (fA iX (af (fA au (fV 3 (af (fS ("stretch" : Str)) aj))) (fV 4 aj))) E=some (K4 (iL r) (iL l)):=cS (aJ [iQ (iL r),iQ (iL l)] (aE (aJ [r,.str "stretch"] rfl (CU gr kr)) (cq rfl rfl)) (Oi _ _));have t4:=cW (cy t2) λ_=>cy t3;have go:∀(h:FS)(res:Option Res),h E=res->a9 (aO 3 (f2 bP (ai 0) (ai 1))) (a9 (aO 4 (fA au (af (f2 bP (ai 0) (ai 2)) (af (fS ("stretch" : Str)) aj)))) h) [sF (.tup ab),sF (.int ri),sF (.int li),none,none]=res:=λh res k=>
  gd r (bB (.tup ab) (.int ri) rfl rfl (by simp[cK hr])) gr.flat (gd (iQ (iL l)) (aJ [l,.str "stretch"] (aE (al _ rfl rfl) rfl) (CU gl (xq kl))) (jB _) k)
 unfold By;cases hA:ge (l,li) (r,ri) with
 |false=>exact⟨.str "order",av rfl (go _ _ (bI (cy (p:=false) (t1.trans (by rw[hA]))) (az rfl))),rfl⟩
 |true=>
  cases hB:(Hq (aA r) (iL l) && K4 (iL r) (iL l)) with
  |false=>exact⟨.str "days",av rfl (go _ _ (aC (cy (p:=true) (t1.trans (by rw[hA]))) (bI (t4.trans (by rw[←Bool.not_and,hB];rfl)) (az rfl)))),rfl⟩
  |true=>exact⟨d,av rfl (go _ _ (aC (cy (p:=true) (t1.trans (by rw[hA]))) (aC (t4.trans (by rw[←Bool.not_and,hB];rfl)) (az (aJ [r,l] (cq rfl (aE (al _ rfl rfl) rfl)) e1))))),e2⟩
theorem mm {ab:List D}{aa:Int}{i:Nat}{r:D}(hr:ab[i]? = some r)(g:c9 r):gw [.tup ab,.int aa,.int i]=sF (.bl (decide (bc r<=aa) && o7 r)):=by
 have EW:cJ [.tup ab,.int aa,.int i]=sF (.bl (decide (bc r<=aa))):=by
  obtain⟨a,k,aF,rfl,d⟩:=g;exact kQ hr aa
 exact av rfl (az (dL (aJ [.tup ab,.int aa,.int i] rfl EW) λ_=>bB (.str (kindOf r)) (.str "leave") (aJ [r] (cq (bB (.tup ab) (.int i) rfl rfl (by simp[cK hr])) rfl) (jk g.c)) rfl (by simp[o7])))
noncomputable def sx (K:KL)(p:Str):KL:=(K.filter λx=>o7 x.1).filter λx=>decide (a7 2 x.1=p)
theorem Hr (g:∀r∈ab,c9 r)(h:x∈sx (ak ab aa) p):ab[x.2]? = some x.1/\c9 x.1/\kindOf x.1=("leave" : Str):=by
 obtain⟨h1,_⟩:=vN h;obtain⟨h2,h3⟩:=vN h1;exact⟨bC h2,g _ (vL (bC h2)),of_decide_eq_true h3⟩
theorem Ep {ab:List D}(g:∀r∈ab,c9 r)(hl:ab.length<=60)(aa:Int)(p:Str):kL [.tup ab,.int aa,.str p]=some (.lst ((sx (ak ab aa) p).map λx=>.int x.2),true):=by
 have RV:=c8 ab aa;have h1:=gO (fi:=cj (fA cL (fV 0 (fV 1 aj)))) (nT:=1) (cap:=[0,1]) (tg:=dq 0) (c:=bo (fA gw (fV 1 (fV 2 (fV 0 aj))))) (fe:=ai 0)
  (ρ:=[sF (.tup ab),sF (.int aa),sF (.str p),none]) (ak ab aa) (λx=>.int x.2) (λx=>o7 x.1) (λx=>.int x.2)
  (by show(fA cL _ _).bind _=_;rw[aJ [.tup ab,.int aa] rfl (kP ab (λr hr=>(g r hr).c.rp) (by omega) aa)];rfl) (by omega) λx hx=>by
   have hk:decide (bc x.1<=aa)=true:=(vN hx).2;have:=mm (aa:=aa) (bC hx) (g _ (vL (bC hx)));rw[hk,Bool.true_and]at this;exact⟨_,rfl,cS (aJ [.tup ab,.int aa,.int x.2] rfl this),λ_=>⟨false,rfl⟩⟩
 have vz:b9 (((ak ab aa).filter λx=>o7 x.1).map λx=>D.int x.2)=true:=bV λd hd=>by obtain⟨x,_,rfl⟩:=vO hd;rfl
 refine av rfl (cx h1 vz (az ?_));refine gO (fi:=cj (ai 3)) (nT:=1) (cap:=[2,0]) (tg:=dq 0) (c:=bo (f2 dJ (fA au (af (f2 bP (ai 2) (ai 0)) (af (fS ("person" : Str)) aj))) (ai 1))) (fe:=ai 0)
  (ρ:=[sF (.tup ab),sF (.int aa),sF (.str p),some (.lst (((ak ab aa).filter λx=>o7 x.1).map λx=>.int x.2),true)]) ((ak ab aa).filter λx=>o7 x.1) (λx=>.int x.2) (λx=>decide (a7 2 x.1=p)) (λx=>.int x.2) (by simp) (vR (vM _ _) (by omega)) λx hx=>?_
 obtain⟨h2,h3⟩:=vN hx;obtain⟨a,d,b,q,m,st,f,e,_⟩:=pw (g _ (vL (bC h2))) (of_decide_eq_true h3);refine⟨[sF (.int x.2),sF (.str p),sF (.tup ab)],rfl,cS (bB (.str (a7 2 x.1)) (.str p) (aJ [x.1,.str "person"] (cq (bB (.tup ab) (.int x.2) rfl rfl (by simp[cK (bC h2)])) rfl) ?_) rfl (by simp)),λ_=>⟨false,rfl⟩⟩;rw[e];exact bw (i:=2) (bq (by decide +kernel)) rfl
theorem Er {ab:List D}(g:∀r∈ab,c9 r)(hl:ab.length<=60)(aa:Int){ri:Nat}{r:D}(hr:ab[ri]? = some r)(kr:kindOf r∈eZ):
  jj [.tup ab,.int aa,.int ri]=some (.lst (((sx (ak ab aa) (dj r)).filter (By r ri)).map λx=>.tup [.str "leave",.int x.2]),true):=by
 have gr:=g r (vL hr);have RV:=c8 ab aa;have RZ:(sx (ak ab aa) (dj r)).length<=60:=vR (vM _ _) (vR (vM _ _) (by omega));have vz:b9 ((sx (ak ab aa) (dj r)).map λx=>D.int x.2)=true:=bV λd hd=>by obtain⟨x,_,rfl⟩:=vO hd;rfl
 refine av rfl (cx (ds:=(sx (ak ab aa) (dj r)).map λx=>.int x.2) (aJ [.tup ab,.int aa,.str (dj r)] (cq rfl (cq rfl (aE (aJ [r,.str "by"] (cq (bB (.tup ab) (.int ri) rfl rfl (by simp[cK hr])) rfl) (CT gr (iK (.inl (su kr))))) rfl))) (Ep g hl aa _)) vz (az ?_));refine gO (fi:=cj (ai 3)) (nT:=1) (cap:=[0,2]) (tg:=dq 0) (c:=bo (f2 EM (fA iY (fV 1 (fV 2 (fV 0 aj)))) (fC .non))) (fe:=fA aS (af (fS ("leave" : Str)) (fV 0 aj)))
  (ρ:=[sF (.tup ab),sF (.int aa),sF (.int ri),some (.lst ((sx (ak ab aa) (dj r)).map λx=>.int x.2),true)]) (sx (ak ab aa) (dj r)) (λx=>.int x.2) (By r ri) (λx=>.tup [.str "leave",.int x.2]) (by simp) (by omega) λx hx=>?_
 obtain⟨h1,h2,h3⟩:=Hr g hx;obtain⟨d,e1,e2⟩:=K5 hr h1 gr h2 kr h3;exact⟨[sF (.int x.2),sF (.tup ab),sF (.int ri)],rfl,cS (bB d .non (aJ [.tup ab,.int ri,.int x.2] rfl e1) rfl e2),λ_=>⟨false,aJ [.str "leave",.int x.2] rfl (cu _ (by simp))⟩⟩
abbrev Bs:=Option Str×Int
noncomputable def Ap:Bs->D
 | (some o,n)=>.tup [.str "office",.str o,.int n]
 | (none,n)=>.tup [.str "leave",.int n]
noncomputable def zC:Bs->List At
 | (some o,n)=>[.i n,.s ("office" : Str),.s o,.i n]
 | (none,n)=>[.i n,.s ("leave" : Str),.i n]
theorem Hs (b:Bs):bg (Ap b)=true:=by rcases b with⟨_|o,n⟩<;>rfl
theorem K6 (b:Bs):bP (Ap b) (.int (-1))=sF (.int b.2):=by rcases b with⟨_|o,n⟩<;>rfl
theorem Ht (a b:Bs):(aZ (zC a) (zC b)).isSome=true:=by
 have O9:("office" : Str)≠("leave" : Str):=by decide +kernel
 rcases a with⟨_|o,n⟩<;>rcases b with⟨_|o',n'⟩
 ·show(aZ [.i n,.s ("leave" : Str),.i n] [.i n',.s ("leave" : Str),.i n']).isSome=true;rw[aZ];split
  ·rw[aZ,if_pos rfl,aZ];split
   ·rw[aZ];rfl
   ·rfl
  ·rfl
 ·show(aZ [.i n,.s ("leave" : Str),.i n] [.i n',.s ("office" : Str),.s o',.i n']).isSome=true;rw[aZ];split
  ·rw[aZ,if_neg (Ne.symm O9)];rfl
  ·rfl
 ·show(aZ [.i n,.s ("office" : Str),.s o,.i n] [.i n',.s ("leave" : Str),.i n']).isSome=true;rw[aZ];split
  ·rw[aZ,if_neg O9];rfl
  ·rfl
 ·show(aZ [.i n,.s ("office" : Str),.s o,.i n] [.i n',.s ("office" : Str),.s o',.i n']).isSome=true;rw[aZ];split
  ·rw[aZ,if_pos rfl,aZ];split
   ·rw[aZ];split
    ·rw[aZ];rfl
    ·rfl
   ·rfl
  ·rfl
theorem K7 (h:zC a=zC b):a=b:=by
 rcases a with⟨_|o,n⟩<;>rcases b with⟨_|o',n'⟩<;>simp[zC]at h
 ·rw[h]
 ·rw[h.1,h.2.1]
theorem CV (l:List Bs):dz (l.map zC)=true:=by
 unfold dz;simp[List.all_eq_true,Ht]
theorem Hu (e:cB (zC a)=cB (zC b)):a=b:=K7 (lh (CV [a,b]) (by simp) (by simp) e)
def XB (cs:List Cl)(r v:D):Bs:=(some (a7 0 v),Hm cs r v)
def zD (K:KL)(cs:List Cl)(r:D)(ri:Nat):List Bs:=((bS K).filter (tF cs r)).map (XB cs r)++((sx K (dj r)).filter (By r ri)).map λx=>(none,(x.2:Int))
def Oj (K:KL)(cs:List Cl)(r:D)(ri:Nat):List Bs:=dw (λb=>cB (zC b)) (zD K cs r ri)
theorem Es (hn:((bS (ak ab aa)).map (a7 0)).Nodup)(cs:List Cl)(r:D)(ri:Nat):(zD (ak ab aa) cs r ri).Nodup:=by
 unfold zD;rw[List.nodup_append];refine⟨?_,?_,?_⟩
 ·exact List.pairwise_map.mpr ((List.Pairwise.sublist List.filter_sublist (List.pairwise_map.mp hn)).imp λh e=>h (vK (Prod.mk.inj e).1))
 ·refine List.pairwise_map.mpr ((List.Pairwise.sublist (List.filter_sublist.trans (List.filter_sublist.trans List.filter_sublist)) (List.pairwise_map.mp (dF ab aa))).imp λh e=>h ?_);have:=(Prod.mk.inj e).2;omega
 ·intro a ha b hb e;obtain⟨v,_,rfl⟩:=vO ha;obtain⟨x,_,rfl⟩:=vO hb;cases (Prod.mk.inj e).1
theorem vp {α:Type}{g:α->D}{h:α->List At}:∀(l:List α),(∀x∈l,NZ (g x)=some (h x))->j0 (l.map g)=some (l.map h)
 |[],_=>rfl
 |x::l,k=>by
  rw[uY,j0,k x mX,vJ,vp l λy hy=>k y (mZ _ hy)];rfl
theorem CW (hl:ab.length<=30)(aa:Int)(cs:List Cl)(r:D)(ri:Nat):(zD (ak ab aa) cs r ri).length<=60:=by
 have h1:((bS (ak ab aa)).filter (tF cs r)).length<=30:=by
  refine vR (vM _ _) ?_;unfold bS;rw[vI];exact vR (vM _ _) (vR (c8 ab aa) hl)
 have h2:((sx (ak ab aa) (dj r)).filter (By r ri)).length<=30:=vR (vM _ _) (vR (vM _ _) (vR (vM _ _) (vR (c8 ab aa) hl)));unfold zD;rw[uZ,vI,vI];omega
theorem Hv {f:FE}{ρ:DL.Env}{b:Bool}(l:List Bs)(hl:l.length<=60)(hn:l.Nodup)(e:f ρ=some (.lst (l.map Ap),b)):Bh f (qC [] (fA aS (af (f2 bP (ai 0) (f1 qi (fI 1))) (fV 0 aj)))) ρ=some (.lst ((dw (λb=>cB (zC b)) l).map Ap),true):=by
 have hm:jO (qC [] (fA aS (af (f2 bP (ai 0) (f1 qi (fI 1))) (fV 0 aj))) ρ) (l.map Ap)=some (l.map λb=>.tup [.int b.2,Ap b]):=iF l λb _=>by
  show(fA aS _ _).map _=_;rw[aJ [.int b.2,Ap b] (cq (bB (Ap b) (.int (-1)) rfl rfl (K6 b)) (cq rfl rfl)) (cu _ (by simp))];rfl
 have hk:j0 (l.map λb=>D.tup [.int b.2,Ap b])=some (l.map zC):=vp l λb _=>by rcases b with⟨_|o,n⟩<;>rfl
 have jF:(l.map zC).length<64/\dz (l.map zC)=true/\True/\((l.map zC).map cB).Nodup:=by
  refine⟨by rw[vI];omega,CV l,trivial,?_⟩;rw[uP];exact List.pairwise_map.mpr (List.Pairwise.imp (λh e=>h (Hu e)) hn)
 unfold Bh wT;rw[e];simp only[vJ];rw[hm];simp only[vJ];rw[hk];simp only[vJ];rw[if_pos jF];unfold jz;have key:((dw (λb=>cB (zC b)) l).map λb=>(zC b,Ap b))=dw (λp:List At×D=>cB p.1) (l.map λb=>(zC b,Ap b)):=by
  refine gL _ (λx hx y hy e=>?_) ((bv _ _).map _) ?_
  ·obtain⟨a,_,rfl⟩:=vO hx;obtain⟨b,_,rfl⟩:=vO hy;rw[Hu e]
  ·exact List.pairwise_map.mpr (fz _ _)
 rw[List.zip_map',←key,uP];rfl
section
variable {ab:List D}(g:∀r∈ab,c9 r) (hl:ab.length<=30) (aa:Int) (hn:((bS (ak ab aa)).map (a7 0)).Nodup)
include g hl hn
theorem zE (cs:List Cl)(xJ:cs.length<=60){ri:Nat}{r:D}(hr:ab[ri]? = some r)(kr:kindOf r∈eZ)(hk:bc r<=aa):eC [.tup ab,.int aa,.lst (cs.map aU),.int ri]=some (.lst ((Oj (ak ab aa) cs r ri).map Ap),true):=by
 have gr:=g r (vL hr);have wd:∀(ρ:DL.Env)(j:Nat),ρ[0]? = some (sF (.tup ab))->ρ[j]? = some (sF (.int ri))->fA aM (af (f2 bP (ai 0) (ai j)) aj) ρ=sF (.str (kindOf r)):=λρ j h0 h2=>aJ [r] (cq (bB (.tup ab) (.int ri) (by simp[h0]) (by simp[h2]) (by simp[cK hr])) rfl) (jk gr.c);have EW:cJ [.tup ab,.int aa,.int ri]=sF (.bl true):=by
  obtain⟨a,k,aF,rfl,d⟩:=id gr;rw[kQ hr aa,decide_eq_true (show a<=aa from hk)]
 have Vy:fF [.tup ab,.int aa,.int ri]=sF (.bl (decide (kindOf r∈[("paper" : Str),("like" : Str),("copy" : Str)]))):=av rfl (az (dL (p:=true) (aJ [.tup ab,.int aa,.int ri] rfl EW) λ_=>bB (.str (kindOf r)) (.tup ([("paper" : Str),("like" : Str),("copy" : Str)].map .str)) (wd _ 2 rfl rfl) rfl (iE _ _)));have hb:eB [.tup ab,.int aa,.int ri]=sF (.bl true):=by
  refine(av rfl (az (mT (aJ [.tup ab,.int aa,.int ri] rfl (mm hr gr)) λ_=>aJ [.tup ab,.int aa,.int ri] rfl Vy))).trans ?_;rw[decide_eq_true hk,Bool.true_and];have:∀k∈eZ,(decide (k=("leave" : Str)) || decide (k∈[("paper" : Str),("like" : Str),("copy" : Str)]))=true:=by decide +kernel
  unfold o7;rw[this _ kr]
 have RF:decide (kindOf r=("copy" : Str))=false:=by
  have:∀k∈eZ,decide (k=("copy" : Str))=false:=by decide +kernel
  exact this _ kr
 have P9:=CW hl aa cs r ri;have vz:b9 ((zD (ak ab aa) cs r ri).map Ap)=true:=bV λd hd=>by obtain⟨b,_,rfl⟩:=vO hd;exact Hs b
 refine av rfl (aC (cy (p:=true) (cS (aJ [.tup ab,.int aa,.int ri] rfl hb))) (aC (bW (a:=kindOf r) (bb:=false) (wd _ 3 rfl rfl) RF) (cx (ds:=(zD (ak ab aa) cs r ri).map Ap) ?_ vz (az (Hv (b:=false) _ P9 (Es hn cs r ri) rfl)))));have ho:=Eo g (by omega) aa hn cs xJ hr kr;have hv:=Er g (by omega) aa hr kr;refine iS (x:=.lst (((bS (ak ab aa)).filter (tF cs r)).map (Oh cs r))) (y:=.lst (((sx (ak ab aa) (dj r)).filter (By r ri)).map λx=>.tup [.str "leave",.int x.2])) (b1:=true) (b2:=true) (aJ [.tup ab,.int aa,.lst (cs.map aU),.int ri] rfl ho) (aJ [.tup ab,.int aa,.int ri] rfl hv) ?_;have Sl:=P9;unfold zD at Sl ⊢;rw[uZ,vI,vI]at Sl;refine(if_pos (dY (by rw[vI,vI];omega))).trans ?_;rw[uW,uP,uP];rfl
end
def Ol (K:KL)(c r:D):Bool:=decide (dj c=dj r) || (!decide (kindOf r=("copy" : Str)) && (bS K).any λv=>decide (jl v &&& jl r=jl r) && ja (br K) (a7 0 v) (a7 3 v) (dj c) (aA c))
theorem Bz {α:Type}(l:List α)(p f:α->Bool):((l.filter p).map f).any id=l.any λx=>p x && f x:=by
 induction l with
 |nil=>rfl
 |cons x l ih=>
  rw[List.filter_cons,List.any_cons,←ih];cases h:p x with
  |true=>rw[if_pos rfl,uY,List.any_cons];rfl
  |false=>rw[if_neg (by decide)];rfl
theorem Om {ab:List D}(g:∀r∈ab,c9 r)(hl:ab.length<=60)(aa:Int)(bK:(br (ak ab aa)).length<=60)(hn:((bS (ak ab aa)).map (a7 0)).Nodup){ci ri:Nat}{c r:D}(hc:ab[ci]? = some c)(hr:ab[ri]? = some r)(kc:kindOf c=("call" : Str))(kr:kindOf r∈bz):
  lZ [.tup ab,.int aa,.lst ((br (ak ab aa)).map aU),.int ci,.int ri]=sF (.bl (Ol (ak ab aa) c r)):=by
 have gC:gf ab:=⟨hl,λr hr=>(g r hr).c⟩;have gc:=g c (vL hc);have gr:=g r (vL hr);have ac:=cK hc;have ar:=cK hr;have pc:=CT gc (iK (.inr kc));have pr:=CT gr (iK (.inl kr));have Sk:∀v∈bS (ak ab aa),c9 v/\bd v=true:=λv hv=>by
  obtain⟨x,hx,rfl⟩:=vO hv;obtain⟨h1,h2⟩:=vN hx;exact⟨g _ (vL (bC h1)),h2⟩
 have hrn:(bS (ak ab aa)).length<=60:=by
  unfold bS;rw[vI];exact vR (vM _ _) (vR (c8 ab aa) hl)
 have jG:aP [c]=sF (.int (aA c)):=by
  have:=rM gc.c;unfold t9 at this;rwa [if_neg (by unfold bd;rw[kc];decide +kernel)]at this
 have Xj:∀(v7:Option (D×Bool)),bo (f2 dJ (ai 6) (fA au (fV 5 (af (fS ("by" : Str)) aj)))) [sF (.tup ab),sF (.int aa),sF (.lst ((br (ak ab aa)).map aU)),sF (.int ci),sF (.int ri),some (r,false),sF (.str (dj c)),v7]=some (decide (dj c=dj r)):=λv7=>cS (bB (.str (dj c)) (.str (dj r)) rfl (aJ [r,.str "by"] rfl pr) (by simp));have Xk:∀(v7:Option (D×Bool)),bo (f2 dJ (fA aM (fV 5 aj)) (fS ("copy" : Str))) [sF (.tup ab),sF (.int aa),sF (.lst ((br (ak ab aa)).map aU)),sF (.int ci),sF (.int ri),some (r,false),sF (.str (dj c)),v7]=some (decide (kindOf r=("copy" : Str))):=λv7=>bW (a:=kindOf r) (bb:=false) (aJ [r] rfl (jk gr.c)) rfl;refine av rfl (gd r (bB (.tup ab) (.int ri) rfl rfl (by simp[ar])) gr.flat (gd (.str (dj c)) (aJ [c,.str "by"] (cq (bB (.tup ab) (.int ci) rfl rfl (by simp[ac])) rfl) pc) rfl ?_));unfold Ol;cases h1:decide (dj c=dj r) with
 |true=>exact bI ((Xj none).trans (by rw[h1])) (az rfl)
 |false=>
  refine aC ((Xj none).trans (by rw[h1])) ?_;cases h2:decide (kindOf r=("copy" : Str)) with
  |true=>exact bI ((Xk none).trans (by rw[h2])) (az rfl)
  |false=>
   have kb:kindOf r∈eZ:=by
    have p0:=of_decide_eq_false h2;have:∀k∈bz,k≠("copy" : Str)->k∈eZ:=by decide +kernel
    exact this _ kr p0
   have pm:=xo gr kb;refine aC ((Xk none).trans (by rw[h2])) ?_;have Mt:=gO (fi:=qO (fA gF (fV 0 (fV 1 aj)))) (nT:=1) (cap:=[5]) (tg:=dq 0) (c:=bo (fA iC (af (fA au (fV 0 (af (fS ("matters" : Str)) aj))) (af (fA au (fV 1 (af (fS ("matters" : Str)) aj))) aj)))) (fe:=ai 0)
    (ρ:=[sF (.tup ab),sF (.int aa),sF (.lst ((br (ak ab aa)).map aU)),sF (.int ci),sF (.int ri),some (r,false),sF (.str (dj c)),none]) (bS (ak ab aa)) id (λv=>decide (jl v &&& jl r=jl r)) id
    (by show(fA gF _ _).bind _=_;rw[aJ [.tup ab,.int aa] rfl (rX gC aa),sn hn];simp) (by omega) λv hv=>by
     obtain⟨gv,Mo⟩:=Sk v hv;exact⟨[some (v,false),some (r,false)],rfl,cS (aJ [.int (jl v),.int (jl r)] (aE (aJ [v,.str "matters"] rfl (CQ gv Mo)) (aE (aJ [r,.str "matters"] rfl pm) rfl)) (vn _ _)),λ_=>⟨false,rfl⟩⟩
   rw[List.map_id]at Mt;refine cx (ds:=(bS (ak ab aa)).filter λv=>decide (jl v &&& jl r=jl r)) Mt (bV λv hv=>(Sk v (vN hv).1).1.flat) (az ?_);have Ig:=lG (fi:=cj (ai 7)) (nT:=1) (cap:=[2,6,0,3]) (tg:=dq 0) (fe:=fA cQ (fV 1 (fV 0 (fV 2 (af (fA aP (af (f2 bP (ai 3) (ai 4)) aj)) aj)))))
    (ρ:=[sF (.tup ab),sF (.int aa),sF (.lst ((br (ak ab aa)).map aU)),sF (.int ci),sF (.int ri),some (r,false),sF (.str (dj c)),some (.lst ((bS (ak ab aa)).filter λv=>decide (jl v &&& jl r=jl r)),true)]) ((bS (ak ab aa)).filter λv=>decide (jl v &&& jl r=jl r)) id (λv=>.bl (ja (br (ak ab aa)) (a7 0 v) (a7 3 v) (dj c) (aA c)))
    (by simp) (vR (vM _ _) (by omega)) λv hv=>by
     obtain⟨gv,Mo⟩:=Sk v (vN hv).1;obtain⟨a,o,rl,m,f,rfl,_,_⟩:=sj gv Mo;exact⟨[some (row a ("root" : Str) [.str o,.int m,.int f,.str rl],false),sF (.lst ((br (ak ab aa)).map aU)),sF (.str (dj c)),sF (.tup ab),sF (.int ci)],rfl,false,aJ [.lst ((br (ak ab aa)).map aU),row a ("root" : Str) [.str o,.int m,.int f,.str rl],.str (dj c),.int (aA c)] (cq rfl (cq rfl (cq rfl (aE (aJ [c] (cq (bB (.tup ab) (.int ci) rfl rfl (by simp[ac])) rfl) jG) rfl)))) (xi _ bK _ _)⟩
   refine(aJ [_] (aE Ig rfl) ?_);show(qm _).map _=_;rw[qV,Option.map_some,Bz];rfl
theorem B1 (g:c9 r)(h:kindOf r=("call" : Str)):∃a d b,∃n:Nat,r=row a ("call" : Str) [.int d,.str b,.int n]:=by
 obtain⟨a,k,aF,rfl,d⟩:=g;have hk:k=("call" : Str):=h;clear h;cases d with
 |copy k fP d b n=>subst hk;exact⟨a,d,b,n,rfl⟩
 |root=>exact absurd hk (by decide +kernel)
 |named=>exact absurd hk (by decide +kernel)
 |chosen=>exact absurd hk (by decide +kernel)
 |heir=>exact absurd hk (by decide +kernel)
 |three k fP=>rcases fP with rfl|rfl|rfl<;>exact absurd hk (by decide +kernel)
 |leave=>exact absurd hk (by decide +kernel)
 |paper k fP=>rcases fP with rfl|rfl<;>exact absurd hk (by decide +kernel)
def K8 (ab:List D)(aa:Int)(ri:Nat)(r:D)(day:Int)(c:D):Bool:=decide (kindOf c=("call" : Str)) && (decide (iI 2 c=ri) && (decide (aA c<=day) && (fG ab aa c && Ol (ak ab aa) c r)))
theorem Oo (e:f ρ=some (.str a,bb)):bo (f2 tp f (fS b)) ρ=some (!decide (a=b)):=cS (iS (x:=.str a) (y:=.str b) (b1:=bb) (b2:=false) e rfl (by simp))
section
variable {ab:List D}(g:∀r∈ab,c9 r) (hl:ab.length<=60) (aa:Int) (bK:(br (ak ab aa)).length<=60) (hn:((bS (ak ab aa)).map (a7 0)).Nodup)
include g hl bK hn
theorem zF {ci ri:Nat}{c r:D}(hc:ab[ci]? = some c)(hr:ab[ri]? = some r)(kr:kindOf r∈bz)(day:Int):jQ [.tup ab,.int aa,.lst ((br (ak ab aa)).map aU),.int ci,.int ri,.int day]=sF (.bl (K8 ab aa ri r day c)):=by
 have gc:=g c (vL hc);have ac:=cK hc;have tw:bo (f2 tp (fA aM (fV 6 aj)) (fS ("call" : Str))) [sF (.tup ab),sF (.int aa),sF (.lst ((br (ak ab aa)).map aU)),sF (.int ci),sF (.int ri),sF (.int day),some (c,false)]=some (!decide (kindOf c=("call" : Str))):=Oo (a:=kindOf c) (bb:=false) (aJ [c] rfl (jk gc.c));refine av rfl (gd c (bB (.tup ab) (.int ci) rfl rfl (by simp[ac])) gc.flat ?_);unfold K8;by_cases hk:kindOf c=("call" : Str)
 ·obtain⟨a,d,b,n,ec⟩:=B1 gc hk;have e1:iI 2 c=(n:Int):=by rw[ec];rfl
  have e2:aA c=d:=by rw[ec];rfl
  have po:au [c,.str "of"]=sF (.int n):=by rw[ec];exact bw (i:=2) (bq (by decide +kernel)) rfl
  have pd:aP [c]=sF (.int d):=by
   have:=rM gc.c;unfold t9 at this;rwa [if_neg (by unfold bd;rw[hk];decide +kernel),e2]at this
  have t2:bo (f2 tp (fA au (fV 6 (af (fS ("of" : Str)) aj))) (ai 4)) [sF (.tup ab),sF (.int aa),sF (.lst ((br (ak ab aa)).map aU)),sF (.int ci),sF (.int ri),sF (.int day),some (c,false)]=some (!decide ((n:Int)=ri)):=cS (bB (.int n) (.int ri) (aJ [c,.str "of"] rfl po) rfl (by simp));have t3:bo (f2 Iq (fA aP (fV 6 aj)) (ai 5)) [sF (.tup ab),sF (.int aa),sF (.lst ((br (ak ab aa)).map aU)),sF (.int ci),sF (.int ri),sF (.int day),some (c,false)]=some (decide (day<d)):=cS (bB (.int d) (.int day) (aJ [c] rfl pd) rfl rfl);have tt:=cW tw λ_=>cW t2 λ_=>t3;rw[e1,e2,decide_eq_true hk,Bool.true_and];rw[decide_eq_true hk]at tt;by_cases h1:(n:Int)=ri
  ·by_cases h2:d<=day
   ·rw[decide_eq_true h1,decide_eq_true h2,Bool.true_and,Bool.true_and];rw[decide_eq_true h1,decide_eq_false (by omega)]at tt;exact aC tt (az (dL (aJ [.tup ab,.int aa,.int ci] rfl (nz ab (λr hr=>(g r hr).c.rp) (by omega) aa hc)) λ_=>aJ [.tup ab,.int aa,.lst ((br (ak ab aa)).map aU),.int ci,.int ri] rfl (Om g hl aa bK hn hc hr hk kr)))
   ·rw[decide_eq_false h2,Bool.false_and,Bool.and_false];rw[decide_eq_true h1,decide_eq_true (show day<d by omega)]at tt;exact bI tt (az rfl)
  ·rw[decide_eq_false h1,Bool.false_and];rw[decide_eq_false h1]at tt;exact bI tt (az rfl)
 ·rw[decide_eq_false hk,Bool.false_and];refine bI (cW (p:=true) (q:=false) (tw.trans (by rw[decide_eq_false hk];rfl)) λh=>by cases h) (az rfl)
def fX (ab:List D)(aa:Int)(ri:Nat)(r:D)(day:Int):List Nat:=if bc r<=aa/\kindOf r∈bz then ((ak ab aa).filter λx=>K8 ab aa ri r day x.1).map (·.2)else []
theorem px {ri:Nat}{r:D}(hr:ab[ri]? = some r)(day:Int):jR [.tup ab,.int aa,.lst ((br (ak ab aa)).map aU),.int ri,.int day]=some (.lst ((fX ab aa ri r day).map λn:Nat=>.int n),true):=by
 have gr:=g r (vL hr);have ar:=cK hr;have EW:cJ [.tup ab,.int aa,.int ri]=sF (.bl (decide (bc r<=aa))):=by
  obtain⟨a,k,aF,e,d⟩:=gr;rw[e]at hr;rw[show bc r=a by rw[e];rfl];exact kQ hr aa
 have wd:∀ρ:DL.Env,ρ[0]? = some (sF (.tup ab))->ρ[2]? = some (sF (.int ri))->fA aM (af (f2 bP (ai 0) (ai 2)) aj) ρ=sF (.str (kindOf r)):=λρ h0 h2=>aJ [r] (cq (bB (.tup ab) (.int ri) (by simp[h0]) (by simp[h2]) (by simp[ar])) rfl) (jk gr.c);have RZ:gw [.tup ab,.int aa,.int ri]=sF (.bl (decide (bc r<=aa) && decide (kindOf r=("leave" : Str)))):=av rfl (az (dL (aJ [.tup ab,.int aa,.int ri] rfl EW) λ_=>bB (.str (kindOf r)) (.str "leave") (wd _ rfl rfl) rfl (by simp)));have Vy:fF [.tup ab,.int aa,.int ri]=sF (.bl (decide (bc r<=aa) && decide (kindOf r∈[("paper" : Str),("like" : Str),("copy" : Str)]))):=av rfl (az (dL (aJ [.tup ab,.int aa,.int ri] rfl EW) λ_=>bB (.str (kindOf r)) (.tup ([("paper" : Str),("like" : Str),("copy" : Str)].map .str)) (wd _ rfl rfl) rfl (iE _ _)));have hb:eB [.tup ab,.int aa,.int ri]=sF (.bl (decide (bc r<=aa/\kindOf r∈bz))):=by
  refine(av rfl (az (mT (aJ [.tup ab,.int aa,.int ri] rfl RZ) λ_=>aJ [.tup ab,.int aa,.int ri] rfl Vy))).trans ?_;congr 3;simp only[bz,List.mem_cons,List.not_mem_nil,or_false];by_cases h1:bc r<=aa
  ·simp[h1]
  ·simp[h1]
 unfold fX;by_cases hx:bc r<=aa/\kindOf r∈bz
 ·rw[if_pos hx];refine av rfl (aC (cy (p:=true) (cS (aJ [.tup ab,.int aa,.int ri] rfl (by rw[hb,decide_eq_true hx])))) (az ?_));have Sm:=gO (fi:=cj (fA cL (fV 0 (fV 1 aj)))) (nT:=1) (cap:=[0,1,2,3,4]) (tg:=dq 0) (c:=bo (fA jQ (fV 1 (fV 2 (fV 3 (fV 0 (fV 4 (fV 5 aj)))))))) (fe:=ai 0)
   (ρ:=[sF (.tup ab),sF (.int aa),sF (.lst ((br (ak ab aa)).map aU)),sF (.int ri),sF (.int day)]) (ak ab aa) (λx=>.int x.2) (λx=>K8 ab aa ri r day x.1) (λx=>.int x.2)
   (by show(fA cL _ _).bind _=_;rw[aJ [.tup ab,.int aa] rfl (kP ab (λr hr=>(g r hr).c.rp) (by omega) aa)];rfl) (vR (c8 ab aa) (by omega)) λx hx2=>by
    exact⟨_,rfl,cS (aJ [.tup ab,.int aa,.lst ((br (ak ab aa)).map aU),.int x.2,.int ri,.int day] rfl (zF g hl aa bK hn (bC hx2) hr hx.2 day)),λ_=>⟨false,rfl⟩⟩
  rw[uP];exact Sm
 ·rw[if_neg hx];exact av rfl (bI (cy (p:=false) (cS (aJ [.tup ab,.int aa,.int ri] rfl (by rw[hb,decide_eq_false hx])))) (az (aJ [] rfl (fT _ (by simp)))))
omit bK in
theorem Hw (ho:(cC (ak ab aa)).length<=60){ri:Nat}{r:D}(hr:ab[ri]? = some r)(day:Int):pT [.tup ab,.int aa,.int ri,.int day]=some (.lst ((fX ab aa ri r day).map λn:Nat=>.int n),true):=by
 obtain⟨ec,sP⟩:=o4 (ab:=ab) ⟨hl,λr hr=>(g r hr).c⟩ aa ho;exact av rfl (az (aJ [.tup ab,.int aa,.lst ((br (ak ab aa)).map aU),.int ri,.int day] (cq rfl (cq rfl (aE (aJ [.tup ab,.int aa] rfl ec) (cq rfl (cq rfl rfl))))) (px g hl aa sP hn hr day)))
end
noncomputable def ly:List Str:=[("paper" : Str),("like" : Str),("copy" : Str)]
noncomputable def B3 (w:Str):Bs->D
 | (some o,n)=>.tup [.str "office",.str o,.int n]
 | (none,n)=>.tup [.str w,.int n]
def Hx (r:D):Str:=if kindOf r=("copy" : Str)then ("copy" : Str)else ("leave" : Str)
theorem Et (b:Bs):B3 ("leave" : Str) b=Ap b:=by rcases b with⟨_|o,n⟩<;>rfl
theorem Eu {ab:List D}{n:Nat}(h:ab.length<=n)(aa:Int):cJ [.tup ab,.int aa,.int n]=sF (.bl false):=by
 refine av rfl (az (dL (p:=false) (q:=false) (b1:=false) ?_ λz=>by cases z));have h1:¬(n:Int)<ab.length:=by omega
 exact(zd (p:=true) (q:=false) (x:=.int 0) (y:=.int n) (z:=.int ab.length) (b1:=false) (b2:=false) (b3:=false) (b4:=false) rfl rfl (by simp) (by simp) λ_=>by simp[h1])
theorem Hy {ab:List D}{i:Nat}{r:D}(hr:ab[i]? = some r)(g:c9 r)(aa:Int):cJ [.tup ab,.int aa,.int i]=sF (.bl (decide (bc r<=aa))):=by
 obtain⟨a,k,aF,rfl,d⟩:=g;exact kQ hr aa
theorem CY {ab:List D}{i:Nat}{r:D}(hr:ab[i]? = some r)(g:c9 r){ρ:DL.Env}{j:Nat}(h0:ρ[0]? = some (sF (.tup ab)))(hj:ρ[j]? = some (sF (.int i))):fA aM (af (f2 bP (ai 0) (ai j)) aj) ρ=sF (.str (kindOf r)) :=
 aJ [r] (cq (bB (.tup ab) (.int i) (by simp[h0]) (by simp[hj]) (by simp[cK hr])) rfl) (jk g.c)
theorem zG {ab:List D}{i:Nat}{r:D}(hr:ab[i]? = some r)(g:c9 r)(aa:Int):fF [.tup ab,.int aa,.int i]=sF (.bl (decide (bc r<=aa) && decide (kindOf r∈ly))) :=
 av rfl (az (dL (aJ [.tup ab,.int aa,.int i] rfl (Hy hr g aa)) λ_=>bB (.str (kindOf r)) (.tup (ly.map .str)) (CY hr g rfl rfl) rfl (iE _ _)))
theorem zH {ab:List D}{i:Nat}{r:D}(hr:ab[i]? = some r)(g:c9 r)(aa:Int):eB [.tup ab,.int aa,.int i]=sF (.bl (decide (bc r<=aa) && decide (kindOf r∈bz))):=by
 refine(av rfl (az (mT (aJ [.tup ab,.int aa,.int i] rfl (mm hr g)) λ_=>aJ [.tup ab,.int aa,.int i] rfl (zG hr g aa)))).trans ?_;congr 3;unfold o7;simp only[bz,ly,List.mem_cons,List.not_mem_nil,or_false];by_cases h1:bc r<=aa
 ·simp[h1]
 ·simp[h1]
def zI (ab:List D)(aa:Int)(r:D)(ri n:Nat):Bool:=match ab[n]? with
 |none=>false
 |some q=>(decide (bc q<=aa) && decide (kindOf q∈ly)) && ge (q,n) (r,ri)
theorem B4 (g:c9 r)(h:kindOf r=("copy" : Str)):∃a d b,∃n:Nat,r=row a ("copy" : Str) [.int d,.str b,.int n]:=by
 obtain⟨a,k,aF,rfl,d⟩:=g;have hk:k=("copy" : Str):=h;clear h;cases d with
 |copy k fP d b n=>subst hk;exact⟨a,d,b,n,rfl⟩
 |root=>exact absurd hk (by decide +kernel)
 |named=>exact absurd hk (by decide +kernel)
 |chosen=>exact absurd hk (by decide +kernel)
 |heir=>exact absurd hk (by decide +kernel)
 |three k fP=>rcases fP with rfl|rfl|rfl<;>exact absurd hk (by decide +kernel)
 |leave=>exact absurd hk (by decide +kernel)
 |paper k fP=>rcases fP with rfl|rfl<;>exact absurd hk (by decide +kernel)
theorem sy (h:kindOf r∈ly):bd r=false:=by
 have:∀k∈ly,decide (k=("root" : Str))=false:=by decide +kernel
 exact this _ h
theorem Ev {ab:List D}(g:∀r∈ab,c9 r)(aa:Int){ri:Nat}{r:D}(hr:ab[ri]? = some r)(kc:kindOf r=("copy" : Str)):∃n:Nat,iI 2 r=n/\jP [.tup ab,.int aa,.int ri]=some (.lst ((if zI ab aa r ri n=true then [((none,(n:Int)):Bs)]else []).map (B3 ("copy" : Str))),true):=by
 have gr:=g r (vL hr);obtain⟨a,d,b,n,er⟩:=B4 gr kc;have nr:bd r=false:=sy (by rw[kc];decide +kernel);have po:au [r,.str "of"]=sF (.int n):=by rw[er];exact bw (i:=2) (bq (by decide +kernel)) rfl
 refine⟨n,by rw[er];rfl,?_⟩;let E:DL.Env:=[sF (.tup ab),sF (.int aa),sF (.int ri),sF (.int n)];refine av rfl (gd (.int n) (aJ [r,.str "of"] (cq (bB (.tup ab) (.int ri) rfl rfl (by simp[cK hr])) rfl) po) rfl ?_);have tt:dS (bo (fA fF (fV 0 (fV 1 (fV 3 aj))))) (bo (fA gz (fV 0 (fV 3 (fV 2 aj))))) E=some (zI ab aa r ri n):=by
  unfold zI;cases hq:ab[n]? with
  |none=>
   have hn:ab.length<=n:=List.getElem?_eq_none_iff.mp hq;exact dD (p:=false) (q:=false) (cS (aJ [.tup ab,.int aa,.int n] rfl (av rfl (az (dL (p:=false) (q:=false) (aJ [.tup ab,.int aa,.int n] rfl (Eu hn aa)) λz=>by cases z))))) λz=>by cases z
  |some q=>
   have gq:=g q (vL hq);exact dD (cS (aJ [.tup ab,.int aa,.int n] rfl (zG hq gq aa))) λh=>by
    rw[vC]at h;exact cS (aJ [.tup ab,.int n,.int ri] rfl (zB hq hr gq gr (sy (of_decide_eq_true h.2)) nr))
 cases hv:zI ab aa r ri n with
 |true=>
  rw[hv]at tt;rw[if_pos rfl];exact bI tt (az (aJ [.tup [.str "copy",.int n]] (cq (aJ [.str "copy",.int n] rfl (cu _ (by simp))) rfl) (fT _ (by simp))))
 |false=>
  rw[hv]at tt;rw[if_neg (by decide)];exact aC tt (az (aJ [] rfl (fT _ (by simp))))
def vq (ab:List D)(aa:Int)(cs:List Cl)(x:D×Nat):List Bs:=if kindOf x.1=("copy" : Str)then (if zI ab aa x.1 x.2 (iI 2 x.1).toNat=true then [(none,iI 2 x.1)]else [])else Oj (ak ab aa) cs x.1 x.2
section
variable {ab:List D}(g:∀r∈ab,c9 r) (hl:ab.length<=30) (aa:Int) (hn:((bS (ak ab aa)).map (a7 0)).Nodup)
include g hl hn
theorem CZ (cs:List Cl)(xJ:cs.length<=60){ri:Nat}{r:D}(hr:ab[ri]? = some r)(kr:kindOf r∈bz)(hk:bc r<=aa):eC [.tup ab,.int aa,.lst (cs.map aU),.int ri]=some (.lst ((vq ab aa cs (r,ri)).map (B3 (Hx r))),true):=by
 have gr:=g r (vL hr);unfold vq Hx;by_cases kc:kindOf r=("copy" : Str)
 ·rw[if_pos kc,if_pos kc];obtain⟨n,e1,e2⟩:=Ev g aa hr kc;rw[e1,Int.toNat_natCast];refine av rfl (aC (cy (p:=true) (cS (aJ [.tup ab,.int aa,.int ri] rfl ((zH hr gr aa).trans (by rw[decide_eq_true hk,decide_eq_true kr];rfl))))) (bI (bW (a:=kindOf r) (bb:=false) (CY hr gr rfl rfl) (decide_eq_true kc)) (az (aJ [.tup ab,.int aa,.int ri] rfl e2))))
 ·rw[if_neg kc,if_neg kc];have kb:kindOf r∈eZ:=by
   have:∀k∈bz,k≠("copy" : Str)->k∈eZ:=by decide +kernel
   exact this _ kr kc
  rw[show B3 ("leave" : Str)=Ap from funext Et];exact zE g hl aa hn cs xJ hr kb hk
end
theorem Op (e:f (m6 ρ)=some (d,b))(k:h (ρ.set i (some (d,false)))=r):a9 (yc i f) h ρ=r:=dh (ρ':=ρ.set i (some (d,false))) (by simp only[yc,e,Option.map_some]) k
theorem Db (e:ρ[i]? = some (some (.dk ks vs,b))):jr i ρ=some (.rt (.dk ks vs) false):=by simp[jr,e]
noncomputable def kN (x:D×Nat):cA:=.inl (x.2:Int)
def Hz (ab:List D)(aa day:Int)(x:D×Nat):Bool:=(fG ab aa x.1 && decide (aA x.1<=day)) && (fX ab aa x.2 x.1 day).isEmpty
theorem K9 {α:Type}(l:List α)(f:α->D):decide ((((l.map f).length:Nat):Int)=0)=l.isEmpty:=by
 cases l with
 |nil=>rfl
 |cons a l=>rw[uY,vE];exact decide_eq_false (by omega)
noncomputable def kU (ab:List D)(aa day:Int)(l:KL):KL:=l.filter λx=>decide (kindOf x.1∈bz) && Hz ab aa day x
section
variable {ab:List D}(g:∀r∈ab,c9 r) (hl:ab.length<=30) (aa:Int) (hn:((bS (ak ab aa)).map (a7 0)).Nodup)
include g hl hn
theorem Oq (bK:(br (ak ab aa)).length<=60){ri:Nat}{r:D}(hr:ab[ri]? = some r)(kr:kindOf r∈bz)(day:Int):nj [.tup ab,.int aa,.lst ((br (ak ab aa)).map aU),.int ri,.int day]=sF (.bl (Hz ab aa day (r,ri))):=by
 have gr:=g r (vL hr);have nr:bd r=false:=by
  have:∀k∈bz,decide (k=("root" : Str))=false:=by decide +kernel
  exact this _ kr
 let E:DL.Env:=[sF (.tup ab),sF (.int aa),sF (.lst ((br (ak ab aa)).map aU)),sF (.int ri),sF (.int day)];have t1:bo (fA eu (fV 0 (fV 1 (fV 3 aj)))) E=some (fG ab aa r):=cS (aJ [.tup ab,.int aa,.int ri] rfl (nz ab (λr hr=>(g r hr).c.rp) (by omega) aa hr));have t2:bo (f2 Iq (fA aP (af (f2 bP (ai 0) (ai 3)) aj)) (ai 4)) E=some (decide (day<aA r)):=cS (bB (.int (aA r)) (.int day) (aJ [r] (cq (bB (.tup ab) (.int ri) rfl rfl (by simp[cK hr])) rfl) (sv gr nr)) rfl rfl);have tt:=cW (cy t1) λ_=>t2;have e:(!fG ab aa r || decide (day<aA r)) = !(fG ab aa r && decide (aA r<=day)):=by
  rw[Bool.not_and];congr 1;rw[←decide_not];congr 1;rw[Int.not_le]
 rw[e]at tt;unfold Hz;cases hA:(fG ab aa r && decide (aA r<=day)) with
 |false=>
  rw[hA]at tt;exact av rfl (bI tt (az rfl))
 |true=>
  rw[hA]at tt;refine av rfl (aC tt (az ?_));rw[Bool.true_and,←K9 (fX ab aa ri r day) λn:Nat=>.int n];exact bB (.int (((fX ab aa ri r day).map λn:Nat=>D.int n).length:Nat)) (.int 0) (aJ [.lst ((fX ab aa ri r day).map λn:Nat=>.int n)] (aE (aJ [.tup ab,.int aa,.lst ((br (ak ab aa)).map aU),.int ri,.int day] rfl (px g (by omega) aa bK hn hr day)) rfl) rfl) rfl (by simp)
theorem zJ (ho:(cC (ak ab aa)).length<=60)(day:Int):nn [.tup ab,.int aa,.int day]=sF (.dk ((kU ab aa day (cC (ak ab aa))).map kN) ((kU ab aa day (cC (ak ab aa))).map λx=>.lst ((vq ab aa (br (ak ab aa)) x).map (B3 (Hx x.1))))):=by
 have gC:gf ab:=⟨by omega,λr hr=>(g r hr).c⟩;obtain⟨ec,sP⟩:=o4 (ab:=ab) gC aa ho;have eL:dZ [.tup ab,.int aa]=some (.lst ((cC (ak ab aa)).map λx=>.int x.2),true):=pj gC aa;generalize xJ:br (ak ab aa)=cs at ec sP ⊢;have lA:∀x∈cC (ak ab aa),x∈ak ab aa:=λx hx=>(vN ((bv _ _).mem_iff.mp hx)).1;have EJ:((cC (ak ab aa)).map (·.2)).Nodup:=lx (dF ab aa);generalize cC (ak ab aa)=O at ho eL lA EJ ⊢;let vD:D×Nat->D:=λx=>.lst ((vq ab aa cs x).map (B3 (Hx x.1)));let E:KL->Option (D×Bool)->DL.Env:=λL v5=>[sF (.tup ab),sF (.int aa),sF (.int day),sF (.lst (cs.map aU)),some (.dk (L.map kN) (L.map vD),true),v5];obtain⟨ρ',e,v5,rfl⟩:=i7 (tg:=dq 5) (g:=zj) (λj ρ=>∃v5,ρ=E (kU ab aa day (O.take j)) v5) (O.map λx=>.int x.2) (E [] none) ⟨none,rfl⟩ (by
  rintro j d ρ hd ⟨v5,rfl⟩;rw[vA]at hd;obtain⟨x,hx,rfl⟩:=oY hd;have OL:=lA x (vL hx);have hr:=bC OL;have EW:bc x.1<=aa:=of_decide_eq_true (vN OL).2;have gx:=g x.1 (vL hr);have et:O.take (j+1)=O.take j++[x]:=by rw[List.take_add_one,hx];rfl
  have ef:kU ab aa day (O.take (j+1))=kU ab aa day (O.take j)++if(decide (kindOf x.1∈bz) && Hz ab aa day x)=true then [x]else []:=by
   unfold kU;rw[et,List.filter_append,List.filter_cons];split<;>rfl
  have Xl:x.2∉(kU ab aa day (O.take j)).map (·.2):=by
   have h2:((O.take (j+1)).map (·.2)).Nodup:=List.Nodup.sublist (List.Sublist.map _ (List.take_sublist _ _)) EJ;rw[et,uW,List.nodup_append]at h2;intro hm;obtain⟨y,hy,ey⟩:=vO hm;exact h2.2.2 _ (uS ⟨y,(vN hy).1,rfl⟩) _ (by simp) ey
  have Xm:(kU ab aa day (O.take j)).length<=60:=vR (vM _ _) (vR (List.length_take_le' _ _) ho);generalize kU ab aa day (O.take j)=L at ef Xl Xm;let F:DL.Env:=E L (sF (.int x.2));have t1:bo (fA eB (fV 0 (fV 1 (fV 5 aj)))) F=some (decide (kindOf x.1∈bz)):=cS (aJ [.tup ab,.int aa,.int x.2] rfl ((zH hr gx aa).trans (by rw[decide_eq_true EW,Bool.true_and])));have tt:=dD t1 λh=>cS (f:=fA nj (fV 0 (fV 1 (fV 3 (fV 5 (fV 2 aj)))))) (aJ [.tup ab,.int aa,.lst (cs.map aU),.int x.2,.int day] rfl (by rw[←xJ];exact Oq g hl aa hn (by rw[xJ];exact sP) hr (of_decide_eq_true h) day));refine⟨F,E (L++if(decide (kindOf x.1∈bz) && Hz ab aa day x)=true then [x]else []) (sF (.int x.2)),rfl,.inl (GQ tt (λh=>?_) λh=>?_),sF (.int x.2),by rw[ef]⟩
  ·rw[if_pos h];have kb:kindOf x.1∈bz:=by rw[vC]at h;exact of_decide_eq_true h.1
   have ON:qQ 4 (ai 5) (fA eC (fV 0 (fV 1 (fV 3 (fV 5 aj))))) F=some (.nx (F.set 4 (some (.dk (dO (L.map kN) (kN x)) (dP (L.map kN) (L.map vD) (kN x) (vD x)),true)))):=by
    have ev:fA eC (fV 0 (fV 1 (fV 3 (fV 5 aj)))) (m6 F)=some (vD x,true):=aJ [.tup ab,.int aa,.lst (cs.map aU),.int x.2] rfl (CZ g hl aa hn cs sP hr kb EW);show((fA eC _ (m6 F)).bind _)=_;rw[ev];simp only[vJ];exact if_pos (c:=(L.map kN).length<sizeLine) (bD (by rw[vI];omega))
   rw[ON];have hk:kN x∉L.map kN:=λhm=>by
    obtain⟨y,hy,ey⟩:=vO hm;exact Xl (uS ⟨y,hy,by have:=Sum.inl.inj (show(Sum.inl (y.2:Int):cA)=Sum.inl (x.2:Int)from ey);omega⟩)
   unfold dO dP;rw[if_neg hk,if_neg hk];simp[F,E]
  ·rw[h,if_neg (by decide),uQ];rfl)
 rw[vI,List.take_length]at e;exact av rfl (Op (aJ [.tup ab,.int aa] rfl ec) (dh (ρ':=E [] none) rfl (dh (ln (ds:=O.map λx=>.int x.2) (by show(fA dZ _ _).bind _=_;rw[aJ [.tup ab,.int aa] rfl eL];rfl) e) (Db (b:=true) rfl))))
end
noncomputable def nK (n:Nat):cA:=.inl (n:Int)
noncomputable def Aq:Nat->D:=λ_=>.bl true
noncomputable def gS (S:List Nat)(b:Bs):Bool:=b.1.isSome || S.any λn=>decide ((n:Int)=b.2)
noncomputable def cD (S:List Nat)(p:Nat×List Bs):List Nat:=if p.2.any (gS S)=true then S++[p.1]else S
noncomputable def cE (l:List (Nat×List Bs)):List Nat:=l.foldl cD []
theorem sA (n:Int):∀S:List Nat,(cG (S.map nK) (S.map Aq) (.inl n)).isSome=S.any λm=>decide ((m:Int)=n)
 |[]=>rfl
 |m::S=>by
  rw[uY,uY,cG,List.any_cons];by_cases h:(m:Int)=n
  ·rw[if_pos (show nK m=.inl n by unfold nK;rw[h]),decide_eq_true h];rfl
  ·rw[if_neg (show ¬nK m=.inl n from λz=>h (Sum.inl.inj z)),decide_eq_false h,sA n S];rfl
theorem HA (hw:decide (w=("office" : Str))=false)(S:List Nat)(b:Bs):np [B3 w b,.dk (S.map nK) (S.map Aq)]=sF (.bl (gS S b)):=by
 unfold gS;rcases b with⟨_|o,n⟩
 ·refine av rfl (az (mT (p:=false) (b1:=false) (bB (.str w) (.str "office") rfl rfl (by simp[of_decide_eq_false hw])) λ_=>bB (.int n) (.dk (S.map nK) (S.map Aq)) rfl rfl ?_));show some (D.bl (cG (S.map nK) (S.map Aq) (.inl n)).isSome,false)=_;rw[sA]
 ·exact av rfl (az (mT (p:=true) (q:=S.any λm=>decide ((m:Int)=n)) (b1:=false) (bB (.str "office") (.str "office") rfl rfl (by simp)) λh=>by cases h))
theorem any_map {α:Type}(l:List α)(f:α->Bool):AM [.lst (l.map λx=>.bl (f x))]=sF (.bl (l.any f)):=by
 show(qm _).map _=_;rw[qV,Option.map_some,List.any_map];rfl
theorem HB (h:m∈cD S p):m∈S∨m=p.1:=by
 unfold cD at h;split at h
 ·simpa using h
 ·exact .inl h
theorem o8:∀(l:List (Nat×List Bs))(S:List Nat)(m:Nat),m∈l.foldl cD S->m∈S∨m∈l.map (·.1)
 |[],_,_,h=>.inl h
 |p::l,S,m,h=>by
  rcases o8 l _ m h with h|h
  ·rcases HB h with h|rfl
   ·exact .inl h
   ·exact .inr (by simp)
  ·exact .inr (mZ _ h)
abbrev Rs:=Nat×Str×List Bs
noncomputable def sS (p:Rs):D:=.lst (p.2.2.map (B3 p.2.1))
noncomputable def jD (p:Rs):Nat×List Bs:=(p.1,p.2.2)
theorem sC (l:List Rs)(hl:l.length<=60)(hw:∀p∈l,decide (p.2.1=("office" : Str))=false)(hb:∀p∈l,p.2.2.length<=100)(hn:(l.map (·.1)).Nodup):jS [.dk (l.map λp=>nK p.1) (l.map sS)]=sF (.dk ((cE (l.map jD)).map nK) ((cE (l.map jD)).map Aq)):=by
 let E:List Nat->Option (D×Bool)->Option (D×Bool)->DL.Env:=λS v2 v3=>[sF (.dk (l.map λp=>nK p.1) (l.map sS)),some (.dk (S.map nK) (S.map Aq),true),v2,v3];have EV:jg (l.map λp=>nK p.1) (l.map sS)=l.map λp=>.tup [.int (p.1:Int),sS p]:=by
  unfold jg;rw[List.zip_map',uP];rfl
 obtain⟨ρ',e,v2,v3,rfl⟩:=i7 (tg:=EN [2,3]) (g:=zk) (λj ρ=>∃v2 v3,ρ=E (cE ((l.take j).map jD)) v2 v3) (l.map λp=>.tup [.int (p.1:Int),sS p]) (E [] none none) ⟨none,none,rfl⟩ (by
  rintro j d ρ hd ⟨v2,v3,rfl⟩;rw[vA]at hd;obtain⟨p,hp,rfl⟩:=oY hd;have OB:=vL hp;have et:l.take (j+1)=l.take j++[p]:=by rw[List.take_add_one,hp];rfl
  have es:cE ((l.take (j+1)).map jD)=cD (cE ((l.take j).map jD)) (jD p):=by
   rw[et,uW];unfold cE;rw[List.foldl_append];rfl
  have Pu:p.1∉cE ((l.take j).map jD):=λhm=>by
   have h2:((l.take (j+1)).map (·.1)).Nodup:=List.Nodup.sublist (List.Sublist.map _ (List.take_sublist _ _)) hn;rw[et,uW,List.nodup_append]at h2;rcases o8 _ _ _ hm with h|h
   ·cases h
   ·rw[uP]at h;exact h2.2.2 _ h _ (by simp) rfl
  have P0:(cE ((l.take j).map jD)).length<=60:=by
   have:∀(q:List (Nat×List Bs))(S:List Nat),(q.foldl cD S).length<=S.length+q.length:=λq=>by
    induction q with
    |nil=>intro S;exact vT _
    |cons a q ih=>
     intro S;refine vR (ih _) ?_;unfold cD;split
     ·rw[uZ,vE,List.length_nil,vE];omega
     ·rw[vE];omega
   have h3:=this ((l.take j).map jD) [];rw[vI,List.length_take,List.length_nil]at h3;exact vR h3 (by omega)
  generalize cE ((l.take j).map jD)=S at es Pu P0;let F:DL.Env:=E S (sF (.int (p.1:Int))) (some (sS p,false));have hc:=lG (fi:=cj (ai 3)) (nT:=1) (cap:=[1]) (tg:=dq 0) (fe:=fA np (fV 0 (fV 1 aj))) (ρ:=F) p.2.2 (B3 p.2.1) (λb=>.bl (gS S b)) rfl (by have:=hb p OB;omega) λb _=>⟨[some (B3 p.2.1 b,false),sF (.dk (S.map nK) (S.map Aq))],rfl,false,aJ [B3 p.2.1 b,.dk (S.map nK) (S.map Aq)] rfl (HA (hw p OB) S b)⟩;have t1:bo (fA AM (af (bL (cj (ai 3)) 1 [1] (dq 0) fY (fA np (fV 0 (fV 1 aj)))) aj)) F=some (p.2.2.any (gS S)):=cS (aJ [.lst (p.2.2.map λb=>.bl (gS S b))] (aE hc rfl) (any_map _ _));refine⟨F,E (cD S (jD p)) (sF (.int (p.1:Int))) (some (sS p,false)),rfl,.inl (GQ t1 (λh=>?_) λh=>?_),_,_,by rw[es]⟩
  ·have hk:nK p.1∉S.map nK:=λhm=>by
    obtain⟨y,hy,ey⟩:=vO hm;have:=Sum.inl.inj (show(Sum.inl (y:Int):cA)=Sum.inl (p.1:Int)from ey);exact Pu (by rw[show p.1=y by omega];exact hy)
   have ON:yY 1 (ai 2) (fC (.bl true)) F=some (.nx (F.set 1 (some (.dk (dO (S.map nK) (nK p.1)) (dP (S.map nK) (S.map Aq) (nK p.1) (.bl true)),true)))):=if_pos (c:=bg (.bl true)=true/\(S.map nK).length<sizeLine) ⟨rfl,bD (by rw[vI];omega)⟩;rw[ON];unfold dO dP cD;rw[if_neg hk,if_neg hk,if_pos (show(jD p).2.any (gS S)=true from h)];simp[F,E,jD,Aq]
  ·unfold cD;rw[if_neg (show ¬(jD p).2.any (gS S)=true by show ¬p.2.2.any (gS S)=true;rw[h];decide)];rfl)
 rw[vI,List.take_length]at e;exact av rfl (dh (ρ':=E [] none none) rfl (dh (ln (ds:=l.map λp=>.tup [.int (p.1:Int),sS p]) (by show some (jg _ _)=_;rw[EV]) e) (Db (b:=true) rfl)))
theorem vt:∀S:List Nat,uC (S.map nK)=some (S.map λ(n:Nat)=>(n:Int))
 |[]=>rfl
 |n::S=>by
  show(uC (S.map nK)).map _=_;rw[vt S];rfl
theorem zK {α β:Type}(g:α->β)(f:β->List Int)(x:α):∀l:List α,nZ f (g x) (l.map g)=(nZ (λa=>f (g a)) x l).map g
 |[]=>rfl
 |y::r=>by
  rw[uY,nZ,nZ];split
  ·rw[uY,zK g f x r]
  ·rfl
theorem o9 {α β:Type}(g:α->β)(f:β->List Int):∀l:List α,dw f (l.map g)=(dw (λa=>f (g a)) l).map g
 |[]=>rfl
 |x::l=>by
  show nZ f (g x) (dw f (l.map g))=(nZ (λa=>f (g a)) x (dw (λa=>f (g a)) l)).map g;rw[o9 g f l,zK]
theorem Ot (e:f ρ=some (.tup [x,y],b))(hx:bg x=true)(hy:bg y=true)(k:h ((ρ.set i (some (x,false))).set j (some (y,false)))=r):a9 (y4 [i,j] f) h ρ=r:=by
 refine dh (ρ':=(ρ.set i (some (x,false))).set j (some (y,false))) ?_ k;have hn:b9 [x,y]=true:=by simp[hx,hy]
 simp only[y4,e,vJ,gH,hn,if_true];simp[gb]
theorem zL (n:Int)(S:List Nat):Ir (.int n) (S.map λ(m:Nat)=>D.int (m:Int))=S.any λm=>decide ((m:Int)=n):=by
 unfold Ir;induction S with
 |nil=>rfl
 |cons m S ih=>
  rw[uY,List.any_cons,ih,List.any_cons];by_cases h:(m:Int)=n
  ·simp[h]
  ·simp[h,Ne.symm h]
def nJ (ab:List D)(aa:Int)(x:D×Nat):List Bs:=vq ab aa (br (ak ab aa)) x
def sD (ab:List D)(aa day:Int):List Nat:=cE ((kU ab aa day (cC (ak ab aa))).map λx=>(x.2,nJ ab aa x))
def cz (S:List Nat):List D:=(kg (S.map λ(n:Nat)=>(n:Int))).map .int
theorem HC (r:D):decide (Hx r=("office" : Str))=false:=by
 unfold Hx;split
 ·decide +kernel
 ·decide +kernel
theorem Ew (S:List Nat)(h:S.length<=60):eN [.lst (S.map λ(n:Nat)=>.int (n:Int))]=some (.lst (cz S),true):=by
 cases S with
 |nil=>rfl
 |cons n S=>
  have h1:ga ((n::S).map λ(n:Nat)=>D.int (n:Int))=none:=rfl;have h2:∀l:List Nat,mJ (l.map λ(n:Nat)=>D.int (n:Int))=some (l.map λ(n:Nat)=>(n:Int)):=λl=>by
   induction l with
   |nil=>rfl
   |cons a l ih=>rw[uY,mJ,ih];rfl
  unfold eN;simp only[h1,h2 (n::S)];rw[if_pos (by rw[vI];omega)];rfl
theorem Ex (L:KL)(hL:L.length<=60):eN [.lst (L.map λx=>.tup [.int (aA x.1),.int x.2])]=some (.lst ((dw (λx=>cB (kA x)) L).map λx=>.tup [.int (aA x.1),.int x.2]),true):=by
 cases L with
 |nil=>rfl
 |cons v L=>
  have h1:ga ((v::L).map λx=>D.tup [.int (aA x.1),.int x.2])=none:=rfl;have h2:mJ ((v::L).map λx=>D.tup [.int (aA x.1),.int x.2])=none:=rfl;have h3:dA ((v::L).map λx=>D.tup [.int (aA x.1),.int x.2])=some ((v::L).map kA):=g7 _ λx _=>rfl;unfold eN;simp only[h1,h2,h3];rw[if_pos]
  ·rw[o9];rfl
  ·refine⟨by rw[vI];omega,pU _,?_⟩;unfold de;rw[Bool.or_eq_true];left;rw[List.all_eq_true];intro x hx;obtain⟨a,_,rfl⟩:=vO hx;rfl
theorem B5 (K:KL)(hK:(K.map (·.2)).Nodup)(q:D×Nat->Bool)(hq:∀x,q x=true->bd x.1=false):dw (λx=>cB (kA x)) (K.filter q)=(cC K).filter q:=by
 refine(gL (λx=>cB (kA x)) (λx hx y hy e=>o3 (·.2) hK (vN hx).1 (vN hy).1 (Bp e)) ?_ (List.Pairwise.filter _ (fz _ _))).symm;refine((bv _ _).filter q).trans ?_;rw[List.filter_filter];have:(K.filter λx=>q x && !bd x.1)=K.filter q:=by
  congr 1;funext x;cases h:q x with
  |false=>rfl
  |true=>rw[hq x h];rfl
 rw[this]
theorem vv {α:Type}(c:α->Bool)(f:α->Nat×List Bs):∀(l:List α)(S:List Nat),l.foldl (λS x=>if c x=true then cD S (f x)else S) S=((l.filter c).map f).foldl cD S
 |[],_=>rfl
 |x::l,S=>by
  rw[List.foldl_cons,vv c f l,List.filter_cons];cases h:c x with
  |true=>rw[if_pos rfl,if_pos rfl,uY,List.foldl_cons]
  |false=>rw[if_neg (by decide),if_neg (by decide)]
theorem xu (h:kindOf r∈bz):bd r=false:=by
 have:∀k∈bz,decide (k=("root" : Str))=false:=by decide +kernel
 exact this _ h
section
variable {ab:List D}(g:∀r∈ab,c9 r) (hl:ab.length<=30) (aa:Int) (hn:((bS (ak ab aa)).map (a7 0)).Nodup) (ho:(cC (ak ab aa)).length<=60)
include hl
theorem zM (x:D×Nat):(nJ ab aa x).length<=60:=by
 unfold nJ vq;split
 ·split
  ·exact(by decide:1<=60)
  ·exact uN _
 ·unfold Oj;rw[(bv _ _).length_eq];exact CW hl aa _ _ _
theorem Ey (day:Int):(sD ab aa day).length<=60:=by
 have:∀(q:List (Nat×List Bs))(S:List Nat),(q.foldl cD S).length<=S.length+q.length:=λq=>by
  induction q with
  |nil=>intro S;exact vT _
  |cons a q ih=>
   intro S;refine vR (ih _) ?_;unfold cD;split
   ·rw[uZ,vE,List.length_nil,vE];omega
   ·rw[vE];omega
 have h3:=this ((kU ab aa day (cC (ak ab aa))).map λx=>(x.2,nJ ab aa x)) [];have h4:(cC (ak ab aa)).length<=30:=by
  unfold cC;rw[(bv _ _).length_eq];exact vR (vM _ _) (vR (c8 ab aa) hl)
 have h5:(kU ab aa day (cC (ak ab aa))).length<=30:=vR (vM _ _) h4;rw[vI,List.length_nil]at h3;exact vR h3 (by omega)
include g hn ho
theorem zN (day:Int):ma [.tup ab,.int aa,.int day]=some (.lst (cz (sD ab aa day)),true):=by
 have el:=zJ g hl aa hn ho day;have h4:(kU ab aa day (cC (ak ab aa))).length<=60:=vR (vM _ _) ho;have es:=sC ((kU ab aa day (cC (ak ab aa))).map λx=>(x.2,Hx x.1,nJ ab aa x)) (by rw[vI];exact h4)
  (λp hp=>by obtain⟨x,_,rfl⟩:=vO hp;exact HC _) (λp hp=>by obtain⟨x,_,rfl⟩:=vO hp;exact vR (zM hl aa x) (by decide))
  (by rw[uP];exact List.Nodup.sublist (List.Sublist.map _ List.filter_sublist) (lx (dF ab aa)))
 rw[uP,uP,uP]at es;refine av rfl (az (aJ [_] (aE (aJ [_] (aE (aJ [.tup ab,.int aa,.int day] rfl el) rfl) es) rfl) ?_));show(uC ((sD ab aa day).map nK)).bind _=_;rw[vt,vJ,if_pos (by rw[vI];have:=Ey hl aa day;omega)];rfl
end
def kW (ab:List D)(aa day:Int):List Rs:=(kU ab aa day (cC (ak ab aa))).map λx=>(x.2,Hx x.1,nJ ab aa x)
def xw (p:Rs):D:=.tup [.int (p.1:Int),sS p]
noncomputable def tG (n:Nat)(p:Rs):Bool:=!decide (p.1=n)
def gg (n:Nat)(l:List Rs):List Nat:=cE ((l.filter (tG n)).map jD)
def kX (n:Nat)(l:List Rs):List Nat:=(cE (l.map jD)).filter λm=>!decide (m∈gg n l)
theorem xy (n:Nat)(S:List Nat):(S.any λm=>decide ((m:Int)=(n:Int)))=decide (n∈S):=by
 rw[Bool.eq_iff_iff,List.any_eq_true,decide_eq_true_iff];constructor
 ·rintro⟨m,h,e⟩;have:=of_decide_eq_true e;rw[show n=m by omega];exact h
 ·exact λh=>⟨n,h,decide_eq_true rfl⟩
theorem HD {α:Type}{l:List α}{f:α->Nat}(h:(l.map f).Nodup):(l.map λx=>nK (f x)).Nodup:=by
 refine List.pairwise_map.mpr ((List.pairwise_map.mp h).imp λh e=>h ?_);have:=Sum.inl.inj (show(Sum.inl _:cA)=Sum.inl _ from e);omega
theorem zO:∀l:List Rs,gs (l.map xw)=some (l.map λp=>(nK p.1,sS p))
 |[]=>rfl
 |p::l=>by
  show((kh (.int (p.1:Int))).bind λkk=>(gs (l.map xw)).map λr=>(kk,sS p)::r)=_;rw[zO l];rfl
theorem Ez (l:List Rs)(hn:(l.map (·.1)).Nodup):hV [.lst (l.map xw)]=sF (.dk (l.map λp=>nK p.1) (l.map sS)):=by
 show(gs _).map _=_;rw[zO,Option.map_some];have e:=sk (l.map λp=>(nK p.1,sS p)) ([],[]) (by rw[List.nil_append,uP];exact HD hn);unfold bX;rw[e];simp[uP,Function.comp_def]
theorem zP:∀(q:List (Nat×List Bs))(S:List Nat),(q.foldl cD S).length<=S.length+q.length
 |[],_=>vT _
 |a::q,S=>by
  refine vR (zP q _) ?_;unfold cD;split
  ·rw[uZ,vE,List.length_nil,vE];omega
  ·rw[vE];omega
theorem sE (q:List (Nat×List Bs)):(cE q).length<=q.length:=by have:=zP q [];rw[List.length_nil]at this;unfold cE;omega
theorem HE (n:Nat)(S:List Nat):(cG (S.map nK) (S.map Aq) (.inl (n:Int))).isSome=decide (n∈S):=by rw[sA,xy]
theorem Dc (a b:Nat):tp (.int (a:Int)) (.int (b:Int))=sF (.bl (!decide (a=b))):=by
 unfold tp;rw[if_pos ⟨by simp[aq],by simp[aq]⟩];by_cases h:a=b
 ·subst h;simp
 ·have:¬(a:Int)=b:=by omega
  simp[h,this]
section
variable {ab:List D}(g:∀r∈ab,c9 r) (hl:ab.length<=30) (aa:Int) (hn:((bS (ak ab aa)).map (a7 0)).Nodup) (ho:(cC (ak ab aa)).length<=60)
theorem E3 (day:Int):((kW ab aa day).map (·.1)).Nodup:=by
 unfold kW;rw[uP];exact List.Nodup.sublist (List.Sublist.map _ List.filter_sublist) (lx (dF ab aa))
theorem LZ (day:Int):∀p∈kW ab aa day,decide (p.2.1=("office" : Str))=false:=λp hp=>by obtain⟨x,_,rfl⟩:=vO hp;exact HC _
include ho in
theorem De (day:Int):(kW ab aa day).length<=60:=by unfold kW;rw[vI];exact vR (vM _ _) ho
include hl in
theorem Ma (day:Int):∀p∈kW ab aa day,p.2.2.length<=100:=λp hp=>by obtain⟨x,_,rfl⟩:=vO hp;exact vR (zM hl aa x) (by decide)
include g hl hn ho
theorem B6 (day:Int)(n:Nat):lr [.tup ab,.int aa,.int day,.int (n:Int)]=some (.lst (cz (kX n (kW ab aa day))),true):=by
 have e1:nn [.tup ab,.int aa,.int day]=sF (.dk ((kW ab aa day).map λp=>nK p.1) ((kW ab aa day).map sS)):=by
  rw[zJ g hl aa hn ho day];unfold kW;rw[uP,uP];rfl
 have hL:=De aa ho day;have hw:=LZ (ab:=ab) aa day;have hb:=Ma hl aa day;have EJ:=E3 (ab:=ab) aa day;generalize kW ab aa day=l at e1 hL hw hb EJ;let A:D:=.dk (l.map λp=>nK p.1) (l.map sS);let E1:DL.Env:=[sF (.tup ab),sF (.int aa),sF (.int day),sF (.int n),sF A,none];have EV:jg (l.map λp=>nK p.1) (l.map sS)=l.map xw:=by
  unfold jg;rw[List.zip_map',uP];rfl
 have hc:=gO (fi:=pO (ai 4)) (nT:=2) (cap:=[3]) (tg:=EN [0,1]) (c:=bo (f2 tp (ai 0) (ai 2))) (fe:=fA aS (fV 0 (fV 1 aj))) (ρ:=E1) l xw (tG n) xw (by show some (jg _ _)=_;rw[EV]) (by omega) λp _=>⟨[sF (.int p.1),some (sS p,false),sF (.int n)],rfl,cS (bB (.int p.1) (.int n) rfl rfl (Dc _ _)),λ_=>⟨false,aJ [.int p.1,sS p] rfl (cu _ (by simp))⟩⟩;have vz:(l.filter (tG n)).length<=60:=vR (vM _ _) hL;have Pl:((l.filter (tG n)).map (·.1)).Nodup:=List.Nodup.sublist (List.Sublist.map _ List.filter_sublist) EJ;have e2:=sC (l.filter (tG n)) vz (λp hp=>hw p (vN hp).1) (λp hp=>hb p (vN hp).1) Pl;have e3:=sC l hL hw hb EJ;let E2:DL.Env:=[sF (.tup ab),sF (.int aa),sF (.int day),sF (.int n),sF A,sF (.dk ((gg n l).map nK) ((gg n l).map Aq))];have P0:(cE (l.map jD)).length<=60:=vR (sE _) (by rw[vI];exact hL);have vw:=gO (fi:=Bg (fA jS (fV 4 aj))) (nT:=1) (cap:=[5]) (tg:=dq 0) (c:=bo (f2 qI (ai 0) (ai 1))) (fe:=ai 0) (ρ:=E2) (cE (l.map jD)) (λ(m:Nat)=>.int (m:Int)) (λm=>!decide (m∈gg n l)) (λ(m:Nat)=>.int (m:Int)) (by
   show(fA jS _ _).bind _=_;rw[aJ [A] rfl e3,vJ];show some (((cE (l.map jD)).map nK).map kD)=_;rw[uP];rfl) (by omega) λm _=>⟨[sF (.int m),sF (.dk ((gg n l).map nK) ((gg n l).map Aq))],rfl,cS (bB (.int m) (.dk ((gg n l).map nK) ((gg n l).map Aq)) rfl rfl (by show some (D.bl (!(cG ((gg n l).map nK) ((gg n l).map Aq) (.inl (m:Int))).isSome),false)=_;rw[HE])),λ_=>⟨false,rfl⟩⟩
 have Vk:(kX n l).length<=60:=vR (vM _ _) P0;refine av rfl (QV (d:=A) (b:=false) (aJ [.tup ab,.int aa,.int day] rfl e1) (by simp[A,bg]) (.inl rfl) (QV (d:=.dk ((gg n l).map nK) ((gg n l).map Aq)) (b:=false) (aJ [.dk ((l.filter (tG n)).map λp=>nK p.1) ((l.filter (tG n)).map sS)] (aE (b:=false) (aJ [.lst ((l.filter (tG n)).map xw)] (aE hc rfl) (Ez _ Pl)) rfl) e2) (by simp[bg]) (.inl rfl) (az (aJ [.lst ((kX n l).map λ(m:Nat)=>.int (m:Int))] (aE vw rfl) (Ew _ Vk)))))
end
section
variable {ab:List D}(g:∀r∈ab,c9 r) (hl:ab.length<=30) (aa:Int) (hn:((bS (ak ab aa)).map (a7 0)).Nodup) (ho:(cC (ak ab aa)).length<=60)
include g hl hn ho
theorem B7 (day:Int):kM [.tup ab,.int aa,.int day]=some (.lst ((kW ab aa day).map xw),true):=by
 have gC:gf ab:=⟨by omega,λr hr=>(g r hr).c⟩;obtain⟨ec,sP⟩:=o4 (ab:=ab) gC aa ho;let c:D×Nat->Bool:=λx=>fG ab aa x.1 && (fX ab aa x.2 x.1 day).isEmpty;let q1:D×Nat->Bool:=λx=>(decide (kindOf x.1∈bz) && decide (aA x.1<=day)) && c x;let P1:D×Nat->Bool:=λx=>q1 x && decide (bc x.1<=aa);let tD:D×Nat->D:=λx=>.tup [.int (aA x.1),.int x.2];let E:KL->Option (D×Bool)->Option (D×Bool)->Option (D×Bool)->DL.Env:=λL v4 v5 v6=>[sF (.tup ab),sF (.int aa),sF (.int day),some (.lst (L.map tD),true),v4,v5,v6];obtain⟨ρ1,e1,v4,v5,v6,rfl⟩:=j4 (tg:=dq 4) (g:=nq) ab.length (λi ρ=>∃v4 v5 v6,ρ=E ((ab.zipIdx.take i).filter P1) v4 v5 v6) (E [] none none none) ⟨none,none,none,rfl⟩ (by
  rintro i ρ hi ⟨v4,v5,v6,rfl⟩;have hx:ab[i]? = some ab[i]:=vU hi;generalize ab[i]=x at hx;have gx:=g x (vL hx);obtain⟨xa,xk,xr,ex,xd⟩:=id gx;have et:(ab.zipIdx.take (i+1)).filter P1=(ab.zipIdx.take i).filter P1++if P1 (x,i)=true then [(x,i)]else []:=by
   rw[List.take_add_one,List.getElem?_zipIdx,hx,List.filter_append];show _++List.filter P1 [(x,0+i)]=_;rw[Nat.zero_add,List.filter_cons];split<;>rfl
  generalize hL:(ab.zipIdx.take i).filter P1=L at et;have Xm:L.length<=30:=by rw[←hL];exact vR (vM _ _) (vR (List.length_take_le' _ _) (by rw[List.length_zipIdx];exact hl))
  have ZK:bg (.tup (.str xk::xr))=true:=by simp[xd.flat]
  have ZL:bc x=xa:=by rw[ex];rfl
  have ZM:kindOf x=xk:=by rw[ex];rfl
  let F:DL.Env:=E L (sF (.int i)) (sF (.int xa)) (sF (.tup (.str xk::xr)));have c1:bo (f2 xI (ai 5) (ai 1)) F=some (decide (xa<=aa)):=cS (by simp[F,E]);have c2:bo (f2 oH (dQ 6 0) (fA aS (af (fS ("leave" : Str)) (af (fS ("paper" : Str)) (af (fS ("like" : Str)) (af (fS ("copy" : Str)) aj)))))) F=some (decide (xk∈bz)):=cS (bB (.str xk) (.tup (bz.map .str)) (bB (.tup (.str xk::xr)) (.int 0) rfl rfl (by simp[Iv])) (aJ (bz.map .str) rfl (cu _ (by decide))) (iE _ _));have x1:xk∈bz->dQ 6 1 F=sF (.int (aA x)):=λh=>by
   obtain⟨dd,b2,q,er⟩:=CS xd (iK (.inl h));have:aA x=dd:=by rw[ex,er];rfl
   rw[this];exact bB (.tup (.str xk::xr)) (.int 1) rfl rfl (by rw[er];simp[Iw])
  have tt:=dD c1 λ_=>dD c2 λh=>cS (f:=f2 xI (dQ 6 1) (ai 2)) (bB (.int (aA x)) (.int day) (x1 (of_decide_eq_true h)) rfl (z:=sF (.bl (decide (aA x<=day)))) (by simp));have t1:bo (fA eu (fV 0 (fV 1 (fV 4 aj)))) F=some (fG ab aa x):=cS (aJ [.tup ab,.int aa,.int i] rfl (nz ab (λr hr=>(g r hr).c.rp) (by omega) aa hx));have t2:bo (f2 dJ (fA pT (fV 0 (fV 1 (fV 4 (fV 2 aj))))) (fA bJ aj)) F=some (fX ab aa i x day).isEmpty:=by
   refine cS (iS (x:=.lst ((fX ab aa i x day).map λn:Nat=>.int n)) (y:=.lst []) (b1:=true) (b2:=true) (aJ [.tup ab,.int aa,.int i,.int day] rfl (Hw g (by omega) aa hn ho hx day)) (aJ [] rfl (fT _ (by simp))) ?_);cases fX ab aa i x day with
   |nil=>exact bq rfl
   |cons a l=>
    unfold dJ;rw[if_pos ⟨by
     simp only[aq,List.all_eq_true];intro d hd;obtain⟨n,_,rfl⟩:=vO hd;simp,by simp[aq]⟩]
    simp
  have ts:=dD t1 λ_=>t2;have hP:P1 (x,i)=((decide (xa<=aa) && (decide (xk∈bz) && decide (aA x<=day))) && c (x,i)):=by
   show(((decide (kindOf x∈bz) && decide (aA x<=day)) && c (x,i)) && decide (bc x<=aa))=_;rw[ZL,ZM];cases decide (xk∈bz)<;>cases decide (xa<=aa)<;>cases decide (aA x<=day)<;>cases c (x,i)<;>rfl
  refine⟨_,_,rfl,.inl (Ot (x:=.int xa) (y:=.tup (.str xk::xr)) (b:=false) (bB (.tup ab) (.int i) rfl rfl ?_) rfl ZK (r:=some (.nx (E (L++if P1 (x,i)=true then [(x,i)]else []) (sF (.int i)) (sF (.int xa)) (sF (.tup (.str xk::xr)))))) (show eM _ _ _ F=_ from GQ tt (λh=>GQ ts (λh'=>?_) λh'=>?_) λh=>?_)),_,_,_,by rw[et]⟩
  ·have ax:=cK hx;rw[show x=.tup [.int xa,.tup (.str xk::xr)]from ex]at ax;simp[ax]
  ·rw[hP,h,show c (x,i)=true from h',Bool.and_self,if_pos rfl];have hk:xk∈bz:=by rw[vC,vC]at h;exact of_decide_eq_true h.2.1
   refine(gX (ds:=L.map tD) (d:=tD (x,i)) (b:=false) rfl (aJ [.int (aA x),.int i] (aE (x1 hk) (cq rfl rfl)) (cu _ (by simp))) rfl (bD (by rw[vI];omega))).trans ?_;simp[F,E,tD]
  ·rw[hP,show c (x,i)=false from h',Bool.and_false,if_neg (by decide),uQ];rfl
  ·rw[hP,h,Bool.false_and,if_neg (by decide),uQ];rfl)
 rw[show ab.zipIdx.take ab.length=ab.zipIdx from List.take_of_length_le (by rw[List.length_zipIdx];exact vT _)]at e1;have hO:ab.zipIdx.filter P1=(ak ab aa).filter q1:=by unfold ak;rw[List.filter_filter]
 rw[hO]at e1;have hOl:((ak ab aa).filter q1).length<=30:=vR (vM _ _) (vR (c8 ab aa) hl);have Ii:=Ex ((ak ab aa).filter q1) (by omega);have Xn:∀x,q1 x=true->kindOf x.1∈bz:=λx h=>by
  rw[show q1 x=((decide (kindOf x.1∈bz) && decide (aA x.1<=day)) && c x)from rfl,vC,vC]at h;exact of_decide_eq_true h.1.1
 rw[B5 _ (dF ab aa) q1 λx h=>xu (Xn x h)]at Ii;have hq:(cC (ak ab aa)).filter q1=kU ab aa day (cC (ak ab aa)):=by
  unfold kU;congr 1;funext x;show((decide (kindOf x.1∈bz) && decide (aA x.1<=day)) && (fG ab aa x.1 && (fX ab aa x.2 x.1 day).isEmpty))=(decide (kindOf x.1∈bz) && ((fG ab aa x.1 && decide (aA x.1<=day)) && (fX ab aa x.2 x.1 day).isEmpty));cases decide (kindOf x.1∈bz)<;>cases fG ab aa x.1<;>cases decide (aA x.1<=day)<;>cases (fX ab aa x.2 x.1 day).isEmpty<;>rfl
 have lA:∀x∈(cC (ak ab aa)).filter q1,x∈ak ab aa/\kindOf x.1∈bz:=λx hx=>by
  obtain⟨h1,h2⟩:=vN hx;exact⟨(vN ((bv _ _).mem_iff.mp h1)).1,Xn x h2⟩
 have ZN:((cC (ak ab aa)).filter q1).length<=60:=vR (vM _ _) ho;have hR:(kW ab aa day).map xw=((cC (ak ab aa)).filter q1).map λx=>xw (x.2,Hx x.1,nJ ab aa x):=by
  rw[hq];unfold kW;rw[uP];rfl
 rw[hR];generalize (cC (ak ab aa)).filter q1=O at Ii lA ZN;refine av rfl (cx (ds:=[]) (aJ [] rfl (fT _ (by simp))) rfl (dh (j5 (gt (j:=ab.length) (b:=false) (by simp) (by omega)) e1) (az (lG (tg:=EN [0,1]) (nT:=2) (cap:=[0,1]) (fi:=cj (fA eN (fV 3 aj))) O tD _ (by
  show(fA eN _ _).bind _=_;rw[aJ [.lst (((ak ab aa).filter q1).map tD)] rfl Ii];rfl) (by omega) λx hx=>?_))))
 obtain⟨OL,hk⟩:=lA x hx;have hr:=bC OL;have EW:bc x.1<=aa:=of_decide_eq_true (vN OL).2;have ZO:xc [.tup ab,.int aa,.int x.2]=some (.lst ((nJ ab aa x).map (B3 (Hx x.1))),true):=av rfl (az (aJ [.tup ab,.int aa,.lst ((br (ak ab aa)).map aU),.int x.2] (cq rfl (cq rfl (aE (aJ [.tup ab,.int aa] rfl ec) (cq rfl rfl)))) (CZ g hl aa hn _ sP hr hk EW)));exact⟨[sF (.int (aA x.1)),sF (.int x.2),sF (.tup ab),sF (.int aa)],rfl,false,aJ [.int x.2,.lst ((nJ ab aa x).map (B3 (Hx x.1)))] (cq rfl (aE (aJ [.tup ab,.int aa,.int x.2] rfl ZO) rfl)) (cu _ (by simp))⟩
end
theorem zQ (n:Int)(S:List Nat):oH (.int n) (.lst (S.map λ(m:Nat)=>.int (m:Int)))=sF (.bl (S.any λm=>decide ((m:Int)=n))):=by
 have vz:(S.map λ(n:Nat)=>D.int (n:Int)).all fZ=true:=by
  rw[List.all_eq_true];intro d hd;obtain⟨m,_,rfl⟩:=vO hd;rfl
 simp only[oH,gH,vJ];rw[if_pos ⟨rfl,vz⟩,zL]
theorem zR (n:Int)(S:List Nat):eS (.int n) (.lst (S.map λ(m:Nat)=>.int (m:Int)))=sF (.bl (!S.any λm=>decide ((m:Int)=n))):=by
 have vz:(S.map λ(n:Nat)=>D.int (n:Int)).all fZ=true:=by
  rw[List.all_eq_true];intro d hd;obtain⟨m,_,rfl⟩:=vO hd;rfl
 simp only[eS,gH,vJ];rw[if_pos ⟨rfl,vz⟩,zL]
theorem E4 (n:Nat)(l:List Rs)(hl:l.length<=60)(hw:∀p∈l,decide (p.2.1=("office" : Str))=false)(hb:∀p∈l,p.2.2.length<=100):ls [.lst (l.map xw),.int (n:Int)]=some (.lst ((gg n l).map λ(m:Nat)=>.int (m:Int)),true):=by
 let fold:List Rs->List Nat:=λl=>l.foldl (λS x=>if tG n x=true then cD S (jD x)else S) [];have hf:gg n l=fold l:=(vv (tG n) jD l []).symm;let G:List Nat->Option (D×Bool)->Option (D×Bool)->DL.Env:=λS w3 w4=>[sF (.lst (l.map xw)),sF (.int n),some (.lst (S.map λ(n:Nat)=>.int (n:Int)),true),w3,w4];obtain⟨ρ2,e2,w3,w4,rfl,Dj⟩:=i7 (tg:=EN [3,4]) (g:=rG) (λj ρ=>∃w3 w4,ρ=G (fold (l.take j)) w3 w4/\(fold (l.take j)).length<=j) (l.map xw) (G [] none none) ⟨none,none,rfl,vT _⟩ (by
  rintro j d ρ hd ⟨w3,w4,rfl,hj⟩;rw[vA]at hd;obtain⟨p,hp,rfl⟩:=oY hd;have OB:=vL hp;have Zr:j<l.length:=(vV hp).1;have et:fold (l.take (j+1))=if tG n p=true then cD (fold (l.take j)) (jD p)else fold (l.take j):=by
   show List.foldl _ _ (l.take (j+1))=_;rw[List.take_add_one,hp];show List.foldl _ _ (l.take j++[p])=_;rw[List.foldl_append];rfl
  generalize fold (l.take j)=S at et hj;let F:DL.Env:=G S (sF (.int p.1)) (some (sS p,false));have hc:=lG (fi:=cj (ai 4)) (nT:=1) (cap:=[2]) (tg:=dq 0) (fe:=Ip (f2 dJ (dQ 0 0) (fS ("office" : Str))) (f2 oH (f2 bP (ai 0) (f1 qi (fI 1))) (ai 1))) (ρ:=F) p.2.2 (B3 p.2.1) (λb=>.bl (gS S b)) rfl (by have:=hb p OB;omega) λb _=>by
    refine⟨[some (B3 p.2.1 b,false),sF (.lst (S.map λ(n:Nat)=>.int (n:Int)))],rfl,false,?_⟩;unfold gS;rcases b with⟨_|o,m⟩
    ·exact mT (p:=false) (b1:=false) (bB (.str p.2.1) (.str "office") rfl rfl (by simp[of_decide_eq_false (hw p OB)])) λ_=>bB (.int m) (.lst (S.map λ(n:Nat)=>.int (n:Int))) rfl rfl (zQ m S)
    ·exact mT (p:=true) (q:=S.any λk=>decide ((k:Int)=m)) (b1:=false) (bB (.str "office") (.str "office") rfl rfl (by simp)) λh=>by cases h
  have t1:bo (f2 tp (ai 3) (ai 1)) F=some (tG n p):=cS (bB (.int p.1) (.int n) rfl rfl (Dc _ _));have t3:bo (fA AM (af (bL (cj (ai 4)) 1 [2] (dq 0) fY (Ip (f2 dJ (dQ 0 0) (fS ("office" : Str))) (f2 oH (f2 bP (ai 0) (f1 qi (fI 1))) (ai 1)))) aj)) F=some (p.2.2.any (gS S)):=cS (aJ [.lst (p.2.2.map λb=>.bl (gS S b))] (aE hc rfl) (any_map _ _));refine⟨F,G (if tG n p=true then cD S (jD p)else S) (sF (.int p.1)) (some (sS p,false)),rfl,.inl (GQ (dD t1 λ_=>t3) (λh=>?_) λh=>?_),_,_,by rw[et],?_⟩
  ·rw[vC]at h;rw[if_pos h.1];unfold cD;rw[if_pos (show(jD p).2.any (gS S)=true from h.2)];refine(gX (ds:=S.map λ(n:Nat)=>.int (n:Int)) (d:=.int p.1) (b:=false) rfl rfl rfl (bD (by rw[vI];omega))).trans ?_;simp[F,G,jD]
  ·cases h1:tG n p with
   |false=>rw[if_neg (by decide)];rfl
   |true=>
    rw[h1,Bool.true_and]at h;rw[if_pos rfl];unfold cD;rw[if_neg (show ¬(jD p).2.any (gS S)=true by show ¬p.2.2.any (gS S)=true;rw[h];decide)];rfl
  ·rw[et];split
   ·unfold cD;split
    ·rw[uZ,vE,List.length_nil];omega
    ·omega
   ·omega)
 rw[vI,List.take_length]at e2;rw[hf];exact av rfl (cx (ds:=[]) (aJ [] rfl (fT _ (by simp))) rfl (dh (ln (ρ:=G [] none none) (ds:=l.map xw) rfl e2) (mS rfl)))
theorem zS (h:aq 40 d=true):tp d d=sF (.bl false):=by
 unfold tp;rw[if_pos ⟨h,h⟩,nu 40 _ h];rfl
theorem oA (S:List Nat):b9 (cz S)=true:=bV λd hd=>by obtain⟨n,_,rfl⟩:=vO hd;rfl
theorem B8 (S:List Nat):aq 40 (.lst (cz S))=true:=by
 simp only[aq,List.all_eq_true];intro d hd;obtain⟨n,_,rfl⟩:=vO hd;simp
theorem zT (S:List Nat):(cz S).length=S.length:=by unfold cz kg;rw[vI,(bv _ _).length_eq,vI]
theorem HF (ab:List D)(aa:Int):bS (ak ab aa)=ab.filter λv=>bd v && decide (bc v<=aa):=by
 unfold bS ak;rw[List.filter_filter];have:∀(l:List (D×Nat))(q:D->Bool),(l.filter λx=>q x.1).map (·.1)=(l.map (·.1)).filter q:=λl q=>by rw[List.filter_map];rfl
 refine(this ab.zipIdx λv=>bd v && decide (bc v<=aa)).trans ?_;rw[List.zipIdx_map_fst]
theorem HG (ab:List D)(aa:Int):((bS (ak ab aa)).map (a7 0)).Sublist (lK ab):=by
 rw[HF];unfold lK;refine List.Sublist.map _ ?_;have:(ab.filter λv=>bd v && decide (bc v<=aa))=(ab.filter bd).filter λv=>decide (bc v<=aa):=by rw[List.filter_filter];congr 1;funext v;rw[Bool.and_comm]
 rw[this];exact List.filter_sublist
def sG (S:List Nat):List Nat:=dw (λn:Nat=>[(n:Int)]) S
theorem xz (S:List Nat):cz S=(sG S).map λ(n:Nat)=>.int (n:Int):=by
 unfold cz kg sG;rw[o9,uP];rfl
theorem E5 {m:Nat}{S:List Nat}:m∈sG S↔m∈S:=(bv _ _).mem_iff
theorem x0 (S:List Nat)(q:Nat->Bool):sG (S.filter q)=(sG S).filter q :=
 (gL (λn:Nat=>[(n:Int)]) (λx _ y _ e=>by have:=(List.cons.inj e).1;omega) ((bv _ _).filter q) (List.Pairwise.filter _ (fz _ _))).symm
theorem xA (n:Nat)(S:List Nat):oH (.int (n:Int)) (.lst (cz S))=sF (.bl (decide (n∈S))):=by
 rw[xz,zQ,xy];congr 3;exact propext E5
theorem HH (h:m∈S):m∈cD S p:=by
 unfold cD;split
 ·exact List.mem_append_left _ h
 ·exact h
theorem zU:∀(q:List (Nat×List Bs))(S:List Nat),m∈S->m∈q.foldl cD S
 |[],_,h=>h
 |_::q,_,h=>zU q _ (HH h)
theorem sI (n:Nat):∀(l:List Rs)(S:List Nat),n∉(l.map jD).foldl cD S->((l.filter (tG n)).map jD).foldl cD S=(l.map jD).foldl cD S
 |[],_,_=>rfl
 |p::l,S,h=>by
  rw[List.filter_cons];by_cases e:p.1=n
  ·have e0:tG n p=false:=by simp[tG,e]
   have es:cD S (jD p)=S:=by
    by_cases hb:(jD p).2.any (gS S)=true
    ·exact absurd (show n∈(l.map jD).foldl cD (cD S (jD p))from zU _ _ (by unfold cD;rw[if_pos hb];simp[jD,e])) h
    ·unfold cD;rw[if_neg hb]
   rw[e0,if_neg (by decide)];rw[uY,List.foldl_cons,es]at h ⊢;exact sI n l S h
  ·rw[show tG n p=true by simp[tG,e],if_pos rfl,uY,uY,List.foldl_cons,List.foldl_cons];exact sI n l _ h
theorem zV {l:List Rs}(h:n∉cE (l.map jD)):kX n l=[]:=by
 unfold kX gg;rw[show cE ((l.filter (tG n)).map jD)=cE (l.map jD)from sI n l [] h];exact List.filter_eq_nil_iff.mpr λm hm=>by simp[hm]
theorem HI (n:Nat)(l:List Rs):decide (n∈kX n l)=decide (n∈cE (l.map jD)):=by
 by_cases h:n∈cE (l.map jD)
 ·have hl:n∉gg n l:=λz=>by
   rcases o8 _ _ _ z with z|z
   ·cases z
   ·rw[uP]at z;obtain⟨p,hp,e⟩:=vO z;have:=(vN hp).2;simp[tG,show p.1=n from e]at this
  rw[decide_eq_true h,decide_eq_true (show n∈kX n l from List.mem_filter.mpr ⟨h,by simp[hl]⟩)]
 ·rw[zV h,decide_eq_false h];rfl
theorem E6 (ab:List D)(aa day:Int):cE ((kW ab aa day).map jD)=sD ab aa day:=by
 unfold kW sD;rw[uP];rfl
theorem KA {Z S:List Nat}{n:Nat}(hL:Z.length<=60)(hm:decide (n∈Z)=decide (n∈S))(ec:lr [.tup ab,.int aa,.int day,.int (n:Int)]=some (.lst (cz Z),true))(v0 v1 v2 v3 v8 p5 pW sW:Option (D×Bool))(b7:Bool):
  ∃Ih,Bk [v0,v1,v2,v3,sF (.int aa),sF (.tup ab),sF (.int day),some (.lst (cz S),b7),v8,sF (.int n),some (.lst (cz Z),true),p5,pW,sW]=some (.nx [v0,v1,v2,v3,sF (.int aa),sF (.tup ab),sF (.int day),some (.lst (cz S),b7),v8,sF (.int n),some (.lst (cz Z),true),p5,pW,Ih]):=by
 let E:DL.Env:=[v0,v1,v2,v3,sF (.int aa),sF (.tup ab),sF (.int day),some (.lst (cz S),b7),v8,sF (.int n),some (.lst (cz Z),true),p5,pW,some (.lst (cz Z),true)];have t1:bo (fA cF (fV 13 (af (fC (.ty "list")) aj))) E=some true:=cS (aJ [.lst (cz Z),.ty "list"] rfl (bq rfl));have t2:bo (f2 tp (ai 13) (ai 10)) E=some false:=cS (bB (.lst (cz Z)) (.lst (cz Z)) rfl rfl (zS (B8 Z)));have t4:bo (f2 tp (f2 oH (ai 9) (ai 7)) (f2 oH (ai 9) (ai 13))) E=some false:=cS (bB (.bl (decide (n∈S))) (.bl (decide (n∈S))) (bB (.int n) (.lst (cz S)) rfl rfl (xA n S)) (bB (.int n) (.lst (cz Z)) rfl rfl (by rw[xA,hm])) (zS (by simp[aq])));have l8:=lG (fi:=cj (ai 13)) (nT:=1) (cap:=[]) (tg:=dq 0) (fe:=jI (fA cF (fV 0 (af (fC (.ty "int")) aj))) (AB (fA cF (fV 0 (af (fC (.ty "bool")) aj))))) (ρ:=E) (kg (Z.map λ(n:Nat)=>(n:Int))) D.int (λ_=>.bl true) rfl (by have:=zT Z;unfold cz at this;rw[vI]at this;omega) λn _=>⟨[sF (.int n)],rfl,false,dL (p:=true) (q:=true) (b1:=false) (aJ [.int n,.ty "int"] rfl rfl) λ_=>Ki (p:=false) (b1:=false) (aJ [.int n,.ty "bool"] rfl rfl)⟩;have t3:bo (fA NE (af (bL (cj (ai 13)) 1 [] (dq 0) fY (jI (fA cF (fV 0 (af (fC (.ty "int")) aj))) (AB (fA cF (fV 0 (af (fC (.ty "bool")) aj)))))) aj)) E=some true:=by
  refine cS (aJ [.lst ((kg (Z.map λ(n:Nat)=>(n:Int))).map λ_=>.bl true)] (aE l8 rfl) ?_);show(qm _).map _=_;rw[qV (λ_=>true),Option.map_some];congr 3;rw[List.all_eq_true];intro b hb;obtain⟨_,_,rfl⟩:=vO hb;rfl
 exact⟨some (.lst (cz Z++[.int n]),true),cx (ds:=cz Z) (aJ [.tup ab,.int aa,.int day,.int n] rfl ec) (oA Z) (aC (cW (p:=false) (q:=false) (cy t1) λ_=>cW (p:=false) (q:=false) t2 λ_=>t4) (aC (cy t3) (gX (ds:=cz Z) (d:=.int n) (b:=false) rfl rfl rfl (bD (by rw[zT];omega)))))⟩
theorem law_true (ns:List Int)(_:ns.length<=63):∃b,F_law [.lst (ns.map .int)]=some (.bl true,b):=by
 obtain⟨c0,e0,h0⟩:=ie ns 0;obtain⟨c3,e3,h3⟩:=ie ns 3;obtain⟨c4,e4,h4⟩:=ie ns 4;obtain⟨Ij,Xo,h90⟩:=ie ns 90;obtain⟨zs,ez,hz,ZP⟩:=Hk c0 h0;have Xp:=mod_lt (x:=c3) (m:=3) (by decide);obtain⟨ms,hms,ZQ⟩:=nI (ns:=[1,1,500]) (i:=c3 % 3) Xp.1 Xp.2;obtain⟨ab,erw,Sn,Sk,OK⟩:=Ky ns zs hz ms;have ZR:=mod_lt (x:=c3 / 3) (m:=13) (by decide);have hm4:=mod_lt (x:=c4) (m:=3) (by decide);have ZS:=mod_lt (x:=Ij / 2) (m:=13) (by decide);have Te:=mod_lt (x:=Ij) (m:=2) (by decide);obtain⟨aa,EW,ZT⟩:=nI (ns:=[9999,c3 / 3 % 13*ms]) (i:=c4 % 3 / 2) (by omega) (by simp;omega);obtain⟨day,hdy,ZU⟩:=nI (ns:=[9999,Ij / 2 % 13*ms]) (i:=Ij % 2) (by omega) (by simp;omega);have Mu:bg (.tup ab)=true:=by simp[bV λd hd=>(Sn d hd).flat]
 have hn:((bS (ak ab aa)).map (a7 0)).Nodup:=by
  refine List.Nodup.sublist (HG ab aa) ?_;rw[OK];refine List.Nodup.sublist (List.take_sublist _ _) ?_;obtain⟨x,hx⟩:∃x,zs[5]? = some x:=⟨_,vU (by omega)⟩;obtain⟨y,hy⟩:∃y,zs[6]? = some y:=⟨_,vU (by omega)⟩;have e:zs.drop 5=[x,y]:=by
   refine List.ext_getElem? λj=>?_;rw[List.getElem?_drop];match j with
   |0=>exact hx
   |1=>exact hy
   |j+2=>rw[List.getElem?_eq_none (by omega)];rfl
  rw[e];simp[ZP x y hx hy]
 have ho:(cC (ak ab aa)).length<=60:=by
  unfold cC;rw[(bv _ _).length_eq];exact vR (vM _ _) (vR (c8 ab aa) (by omega))
 have es:=zN Sn (by omega) aa hn ho day;have eb:=B7 Sn (by omega) aa hn ho day;have el:=λn=>B6 Sn (by omega) aa hn ho day n;have hL:=De aa ho day;have hw:=LZ (ab:=ab) aa day;have hb:=Ma (ab:=ab) (by omega) aa day;rw[←E6]at es;generalize kW ab aa day=l at es eb el hL hw hb;let S:List Nat:=cE (l.map jD);have hS:S.length<=60:=vR (sE _) (by rw[vI];exact hL);let E:Bool->Bool->Bool->Option (D×Bool)->Option (D×Bool)->Option (D×Bool)->Option (D×Bool)->Option (D×Bool)->DL.Env:=λb1 b7 b8 v9 Aj p5 pW sW=>[sF (.lst (ns.map .int)),some (.lst (zs.map .str),b1),sF (.int ms),sF (.tup ab),sF (.int aa),sF (.tup ab),sF (.int day),some (.lst (cz S),b7),some (.lst (l.map xw),b8),v9,Aj,p5,pW,sW];obtain⟨b1,b7,b8,e8⟩:∃b1 b7 b8,setE [sF (.lst (ns.map .int)),some (.lst (zs.map .str),true),sF (.int ms),sF (.tup ab),sF (.int aa),sF (.tup ab),sF (.int day),some (.lst (cz S),true),none,none,none,none,none,none] 8 (.lst (l.map xw)) true=E b1 b7 b8 none none none none none:=by
  cases l with
  |nil=>exact⟨true,true,true,qT rfl⟩
  |cons p l=>exact⟨false,false,false,Cy (by simp[bg]) (.inr (by simp[xw,sS,bg,b9]))⟩
 obtain⟨ρ',ZV,v9,Aj,p5,pW,sW,rfl⟩:=j4 (tg:=dq 9) (g:=Bl) ab.length (λ_ ρ=>∃v9 Aj p5 pW sW,ρ=E b1 b7 b8 v9 Aj p5 pW sW) (E b1 b7 b8 none none none none none) ⟨none,none,none,none,none,rfl⟩ (by
  rintro n ρ hi ⟨v9,Aj,p5,pW,sW,rfl⟩;have hZ:(kX n l).length<=60:=vR (vM _ _) hS;let N:=sF (.int n);let T:=some (D.lst (cz (kX n l)),true);have Vz:∃IA,eM (bo (f2 oH (ai 9) (ai 7))) (a9 (aO 11 (fA ls (fV 8 (fV 9 aj)))) (aO 10 (bL (cj (ai 7)) 1 [11] (dq 0) (bo (f2 eS (ai 0) (ai 1))) (ai 0)))) bp (E b1 b7 b8 N (some (.lst [],true)) p5 pW sW)=some (.nx (E b1 b7 b8 N T IA pW sW)):=by
   have tt:bo (f2 oH (ai 9) (ai 7)) (E b1 b7 b8 N (some (.lst [],true)) p5 pW sW)=some (decide (n∈S)):=cS (bB (.int n) (.lst (cz S)) rfl rfl (xA n S));by_cases h:n∈S
   ·rw[decide_eq_true h]at tt;let Lf:List D:=(gg n l).map λ(m:Nat)=>.int (m:Int);have hc:=gO (fi:=cj (ai 7)) (nT:=1) (cap:=[11]) (tg:=dq 0) (c:=bo (f2 eS (ai 0) (ai 1))) (fe:=ai 0) (ρ:=E b1 b7 b8 N (some (.lst [],true)) (some (.lst Lf,true)) pW sW) (sG S) (λ(m:Nat)=>.int (m:Int)) (λm=>!decide (m∈gg n l)) (λ(m:Nat)=>.int (m:Int)) (by rw[←xz];rfl) (by unfold sG;rw[(bv _ _).length_eq];omega) λm _=>⟨[sF (.int m),sF (.lst Lf)],rfl,cS (bB (.int m) (.lst Lf) rfl rfl (by rw[zR,xy])),λ_=>⟨false,rfl⟩⟩;rw[←x0,←xz]at hc;exact⟨some (.lst Lf,true),l7 tt (cx (ds:=Lf) (aJ [.lst (l.map xw),.int n] rfl (E4 n l hL hw hb)) (bV λd hd=>by obtain⟨m,_,rfl⟩:=vO hd;rfl) (pP (ds:=cz (kX n l)) hc (oA _)))⟩
   ·rw[decide_eq_false h]at tt;refine⟨p5,mR tt ?_⟩;show some (Res.nx (E b1 b7 b8 N (some (.lst [],true)) p5 pW sW))=some (.nx (E b1 b7 b8 N (some (D.lst (cz (kX n l)),true)) p5 pW sW));rw[zV h];rfl
  obtain⟨IA,Vz⟩:=Vz;obtain⟨j,hj,ej⟩:∃j:Nat,j<=2/\f2 bY (fI 1) (fA tu (af (f2 dJ (f2 bM (ai 9) (fI 4)) (fI 1)) aj)) (E b1 b7 b8 N T IA pW sW)=sF (.int j):=by
   refine⟨if(n:Int) % 4=1 then 2 else 1,by split<;>omega,bB (.int 1) (.int (if(n:Int) % 4=1 then 1 else 0)) rfl (aJ [.bl (decide ((n:Int) % 4=1))] (cq (bB (.int ((n:Int) % 4)) (.int 1) (bB (.int n) (.int 4) rfl rfl (by simp)) rfl (by simp)) rfl) (Kx _)) ?_⟩
   split<;>rfl
  obtain⟨ρ2,e2,Mq,Ih,rfl⟩:=j4 (tg:=dq 12) (g:=Bk) j (λ_ ρ=>∃Mq Ih,ρ=E b1 b7 b8 N T IA Mq Ih) (E b1 b7 b8 N T IA pW sW) ⟨pW,sW,rfl⟩ (by
   rintro t ρ ht ⟨Mq,Ih,rfl⟩;obtain⟨ZW,e⟩:=KA (S:=S) hZ (HI n l) (el n) (sF (.lst (ns.map .int))) (some (.lst (zs.map .str),b1)) (sF (.int ms)) (sF (.tup ab)) (some (.lst (l.map xw),b8)) IA (sF (.int t)) Ih b7;exact⟨_,_,rfl,.inl e,_,ZW,rfl⟩)
  exact⟨_,_,rfl,.inl (cx (ds:=[]) (aJ [] rfl (fT _ (by simp))) rfl (dh Vz (j5 (gt ej (by omega)) e2))),_,_,_,_,_,rfl⟩)
 refine⟨false,av rfl (cx (ds:=zs.map .str) (aJ [.int c0] (aE (aJ [.lst (ns.map .int),.int ((0:Nat):Int)] rfl e0) rfl) ez) (eE zs) (gd (.int ms) ?_ rfl (gd (.tup ab) (aJ [.lst (ns.map .int),.lst (zs.map .str),.int ms,.int 14] rfl erw) Mu (gd (.int aa) ?_ rfl (gd (.tup ab) (aJ [.lst ab] (aE (b:=true) (aJ [.tup ab] rfl rfl) rfl) rfl) Mu (gd (.int day) ?_ rfl (cx (ds:=cz S) (aJ [.tup ab,.int aa,.int day] rfl es) (oA S) (Cz (aJ [.tup ab,.int aa,.int day] rfl eb) ?_))))))))⟩
 ·exact iS (x:=.lst (([1,1,500]:List Int).map .int)) (y:=.int (c3 % 3)) (b1:=true) (b2:=false) (by simp[sizeLine]) (bB (.int c3) (.int 3) (aJ [.lst (ns.map .int),.int ((3:Nat):Int)] rfl e3) rfl (by simp)) ZQ
 ·exact iS (x:=.lst (([9999,c3 / 3 % 13*ms]:List Int).map .int)) (y:=.int (c4 % 3 / 2)) (b1:=true) (b2:=false) (aJ [.int 9999,.int (c3 / 3 % 13*ms)] (cq rfl (cq (bB (.int (c3 / 3 % 13)) (.int ms) (bB (.int (c3 / 3)) (.int 13) (bB (.int c3) (.int 3) (aJ [.lst (ns.map .int),.int ((3:Nat):Int)] rfl e3) rfl (by simp)) rfl (by simp)) rfl (o5 (by omega))) rfl)) (fT _ (by simp))) (bB (.int (c4 % 3)) (.int 2) (bB (.int c4) (.int 3) (aJ [.lst (ns.map .int),.int ((4:Nat):Int)] rfl e4) rfl (by simp)) rfl (by simp)) ZT
 ·exact iS (x:=.lst (([9999,Ij / 2 % 13*ms]:List Int).map .int)) (y:=.int (Ij % 2)) (b1:=true) (b2:=false) (aJ [.int 9999,.int (Ij / 2 % 13*ms)] (cq rfl (cq (bB (.int (Ij / 2 % 13)) (.int ms) (bB (.int (Ij / 2)) (.int 13) (bB (.int Ij) (.int 2) (aJ [.lst (ns.map .int),.int ((90:Nat):Int)] rfl Xo) rfl (by simp)) rfl (by simp)) rfl (o5 (by omega))) rfl)) (fT _ (by simp))) (bB (.int Ij) (.int 2) (aJ [.lst (ns.map .int),.int ((90:Nat):Int)] rfl Xo) rfl (by simp)) ZU
 ·refine Eq.trans (congrArg (a9 (jZ (fu (fA gW (fV 3 aj))) (dq 9) Bl) (aW (f2 dJ (ai 5) (ai 3)))) e8) ?_;exact dh (j5 (gt (j:=ab.length) (b:=false) (by simp[E]) (by omega)) ZV) (az (bB (.tup ab) (.tup ab) rfl rfl (Kk λr hr=>(Sn r hr).c.rp)))
end Lw
namespace Lw
open PySem PySem.Spec PyProof.Rows L2 DL
noncomputable def fH (i:Nat):Stmt:=PySem.Challenge.pw_sealchain_k35_what_leans_on_a_row.main.body.getD i (.Pass ⟨0,0,0,0⟩)
structure Tx (w:World)(K:PySem.W.Frag)(mg:Str->Option Value):Prop where
 hX:∃h,K.In h/\h.Ns mainGlobals mg
 d0:dN K "word_of" (fH 7)
 d1:dN K "part_of" (fH 8)
 d2:dN K "day_of" (fH 9)
 d3:dN K "heard" (fH 11)
 d4:dN K "rank" (fH 13)
 d5:dN K "in_order" (fH 15)
 d6:dN K "by_office" (fH 27)
 d7:dN K "roots" (fH 16)
 d8:dN K "is_known" (fH 12)
 d9:dN K "tells" (fH 19)
 d10:dN K "told_of" (fH 20)
 d11:dN K "lives" (fH 21)
 d12:dN K "has_seal" (fH 22)
 d13:dN K "is_sound" (fH 23)
 d14:dN K "lies_in" (fH 1)
 d15:dN K "is_alive" (fH 25)
 d16:dN K "by_since" (fH 26)
 d17:dN K "chief_of" (fH 28)
 d18:dN K "holder_by" (fH 29)
 d19:dN K "is_held_by" (fH 30)
 d20:dN K "is_first_death" (fH 31)
 d21:dN K "counts" (fH 32)
 d22:dN K "new_claim" (fH 33)
 d23:dN K "ended" (fH 34)
 d24:dN K "after_choice" (fH 35)
 d25:dN K "inherited" (fH 36)
 d26:dN K "after_death" (fH 37)
 d27:dN K "claims" (fH 38)
 d28:dN K "is_paper" (fH 41)
 d29:dN K "is_leave" (fH 42)
 d30:dN K "is_borne" (fH 43)
 d31:dN K "covers" (fH 4)
 d32:dN K "reach_bar" (fH 48)
 d33:dN K "office_bar" (fH 49)
 d34:dN K "office_bases" (fH 52)
 d35:dN K "ends_within" (fH 3)
 d36:dN K "is_within" (fH 2)
 d37:dN K "is_ahead" (fH 14)
 d38:dN K "leave_bar" (fH 50)
 d39:dN K "leaves_to" (fH 51)
 d40:dN K "leave_bases" (fH 53)
 d41:dN K "copy_bases" (fH 54)
 d42:dN K "bases_by" (fH 55)
 d43:dN K "may_call" (fH 44)
 d44:dN K "calls_in" (fH 45)
 d45:dN K "calls_by" (fH 46)
 d46:dN K "is_fit" (fH 57)
 d47:dN K "links" (fH 58)
 d48:dN K "bears" (fH 59)
 d49:dN K "stood" (fH 60)
 d50:dN K "standing" (fH 61)
 d51:dN K "leaning" (fH 63)
 d52:dN K "_law_cell" (fH 65)
 d53:dN K "_law_names" (fH 66)
 d54:dN K "_law_stretch" (fH 67)
 d55:dN K "_law_deed" (fH 68)
 d56:dN K "_law_rows" (fH 69)
 d57:dN K "calls" (fH 47)
 d58:dN K "bases" (fH 56)
 d59:dN K "_law_bearers" (fH 70)
 d60:dN K "_law_stand" (fH 71)
 d61:dN K "law" (fH 72)
 n0:mg "all" = none
 n1:mg "any" = none
 n2:mg "bool" = none
 n3:mg "dict" = none
 n4:mg "enumerate" = none
 n5:mg "int" = none
 n6:mg "isinstance" = none
 n7:mg "len" = none
 n8:mg "list" = none
 n9:mg "max" = none
 n10:mg "min" = none
 n11:mg "range" = none
 n12:mg "set" = none
 n13:mg "sorted" = none
 n14:mg "tuple" = none
 k0:KC K mg "PAPERS" ze
 k1:KD w K mg "PARTS" hW
 k2:KC K mg "SEALINGS" iA
 l5:Ba K "in_order"
 l12:Ba K "has_seal"
 l20:Ba K "is_first_death"
 l42:Ba K "bases_by"
section
variable {P:Program}{w:World}{K:PySem.W.Frag}{mg:Str->Option Value}{base:Heap}(T:Tx w K mg)
include T
theorem f0:Fn P w K mg base 1 "word_of" aM:=T.d0.fq T.hX uF ["row"] 1 λnd hr hu=>
  (bi (aT (bO 0) aw))
theorem f1:Fn P w K mg base 2 "part_of" au:=T.d1.fq T.hX uG ["row","part"] 2 λnd hr hu=>
  (bi (aT (bO 0) (ay bx aw (JJ T.k1 (a8 (f0 T) hr) (ag 1)))))
theorem f2:Fn P w K mg base 3 "day_of" aP:=T.d2.fq T.hX zf ["row"] 1 λnd hr hu=>
  (ao (cI (aL (cP hu) (a8 (f0 T) hr) aB) eQ)
   (bi (a8 (f1 T) hr)))
theorem f3:Fn P w K mg base 1 "heard" cL:=T.d3.fq T.hX C3 ["book","known"] 2 λnd hr hu=>
  (bi (gN ["number","row","known"] (JB T.n4 (ag 0)) (eP (aL m9 (bO 1) (ag 2))) (ag 0)))
theorem f4:Fn P w K mg base 4 "rank" fE:=T.d4.fq T.hX GR ["book","number"] 2 λnd hr hu=>
  (bi (aR (ah (bf (f2 T) hr (ah (aT (ag 0) (ag 1)) am)) (aH 1 am))))
theorem f5:Fn P w K mg base 8 "in_order" dZ:=T.d5.fqL T.hX qW ["book","known","dated"] 2 λnd hr hu jG=>
  (ao (mP ["number","book"] nd (c6 (a8 (f3 T) hr)) (eP (aL wC (bf (f2 T) hr (ah (aT (ag 1) (ag 0)) am)) eQ)) (ag 0))
   (bi (G0 Gy T.n13 (ag 2) (wS (cap:=[0]) (N':=["number","book"]) (by decide +kernel) T.l5 jG rfl rfl (Cm (by decide +kernel) rfl rfl rfl rfl rfl) rfl (.cons rfl rfl (Or.inl rfl) rfl (pG (by decide +kernel) rfl) (.nil rfl)) rfl hr.in1.in1 (λ_ _ _ _=>rfl) λ_ _ _ _ hr=>have hu:=DC hr;(a8 (f4 T) hr)))))
theorem f6:Fn P w K mg base 1 "by_office" gP:=T.d6.fq T.hX oP ["claim"] 1 λnd hr hu=>
  (bi (aR (ah (bO 0) (ah (bO 0) (ah (bO 0) am)))))
theorem f7:Fn P w K mg base 3 "roots" gF:=T.d7.fq T.hX C4 ["book","known","known_rows"] 2 λnd hr hu=>
  (ao (mP ["number","book"] nd (c6 (a8 (f3 T) hr)) jd (aT (ag 1) (ag 0)))
   (bi (fK (GD rfl) T.n3 GC (ah (gN ["row"] (c6 (ag 2)) (eP (aL (cP hu) (a8 (f0 T) hr) aB)) (aR (ah (a8 (f1 T) hr) (aH 0 am)))) am))))
theorem f8:Fn P w K mg base 1 "is_known" cJ:=T.d8.fq T.hX qX ["book","known","number"] 3 λnd hr hu=>
  (bi (gV (F8 m9 FJ aw (ag 2) (bA ju T.n7 jv (aH 0 am))) (ft (ce m9 (aT (aT (ag 0) (ag 2)) aw) (ag 1)))))
theorem f9:Fn P w K mg base 4 "tells" pQ:=T.d9.fq T.hX C5 ["row","words","person","day"] 4 λnd hr hu=>
  (bi (gV (ce mB (a8 (f0 T) hr) (ag 1)) (gV (ce (cP hu) (a8 (f1 T) hr) (ag 2)) (ft (ce m9 (a8 (f2 T) hr) (ag 3))))))
theorem f10:Fn P w K mg base 5 "told_of" iq:=T.d10.fq T.hX uH ["book","known","words","person","day"] 5 λnd hr hu=>
  (bi (gN ["number","words","person","day","book"] (c6 (a8 (f3 T) hr)) (eP (cf (bf (f9 T) hr (ah (aT (ag 4) (ag 0)) (aH 1 (aH 2 (aH 3 am))))))) (ag 0)))
theorem f11:Fn P w K mg base 6 "lives" mU:=T.d11.fq T.hX C6 ["book","known","person","day"] 4 λnd hr hu=>
  (bi (ce (cP hu) (bA ju T.n7 jv (ah (bf (f10 T) hr (aH 0 (aH 1 (ah (aR (ah aB am)) (aH 2 (aH 3 am)))))) am)) aw))
theorem XC:Fn P w K mg base 8 "has_seal" lX:=T.d12.fqL T.hX qY ["book","known","person","day","told"] 4 λnd hr hu jG=>
  (ao (aD nd (bf (f10 T) hr (aH 0 (aH 1 (ah (aR (ah aB (ah aB am))) (aH 2 (aH 3 am)))))))
   (ao (cI (aL (cP hu) (bA ju T.n7 jv (aH 4 am)) aw) jt)
   (bi (ce (cP hu) (bf (f0 T) hr (ah (aT (ag 0) (yX VH T.n9 (ag 4) (wS (cap:=[0]) (N':=["number","book"]) (by decide +kernel) T.l12 jG rfl rfl (Cm (by decide +kernel) rfl rfl rfl rfl rfl) rfl (.cons rfl rfl (Or.inl rfl) rfl (pG (by decide +kernel) rfl) (.nil rfl)) rfl hr.in1 (λ_ _ _ _=>rfl) λ_ _ _ _ hr=>have hu:=DC hr;(a8 (f4 T) hr)) hr)) am)) aB))))
theorem S9:Fn P w K mg base 9 "is_sound" eu:=T.d13.fq T.hX qZ ["book","known","number","sealer","day"] 3 λnd hr hu=>
  (ao (cI (km (k8 (gk (cf (a8 (f8 T) hr))) (k7 (aL mC (bf (f0 T) hr (ah (aT (ag 0) (ag 2)) am)) (yv T.k2))))) jt)
   (ao (aD nd (bf (f1 T) hr (ah (aT (ag 0) (ag 2)) (ah aB am))))
   (ao (aD nd (bf (f2 T) hr (ah (aT (ag 0) (ag 2)) am)))
   (bi (gV (a8 (f11 T) hr) (ft (a8 (XC T) hr)))))))
theorem VQ:Fn P w K mg base 1 "lies_in" j6:=T.d14.fq T.hX uI ["day","stretch"] 2 λnd hr hu=>
  (bi (gV (ce m9 (bO 1) (ag 0)) (ft (BK (ce FL (bO 1) eQ) (ft (ce FJ (ag 0) (bO 1)))))))
theorem Uc:Fn P w K mg base 2 "is_alive" cX:=T.d15.fq T.hX re ["claim","day"] 2 λnd hr hu=>
  (bi (bf (VQ T) hr (aH 1 (ah (aR (ah (bO 0) (ah (bO 0) am))) am))))
theorem Ud:Fn P w K mg base 1 "by_since" dE:=T.d16.fq T.hX rf ["claim"] 1 λnd hr hu=>
  (bi (aR (ah (bO 0) (ah (bO 0) am))))
theorem XD:Fn P w K mg base 5 "chief_of" lY:=T.d17.fq T.hX rg ["alive","rule"] 2 λnd hr hu=>
  (ao (cI (aL (cP hu) (ag 1) aB) (aT (yX VH T.n9 (ag 0) (Cn (Ud T) (hr.in1.mono (by decide)) rfl) hr) aw))
   (bi (aT (yX TR T.n10 (ag 0) (Cn (Ud T) (hr.in1.mono (by decide)) rfl) hr) aw)))
theorem VR:Fn P w K mg base 6 "holder_by" eA:=T.d18.fq T.hX oQ ["claimed","root","day","alive","people","person","oldest"] 3 λnd hr hu=>
  (ao (mP ["claim","day","root"] nd (c6 (ag 0)) (eP (km (iu (aL (cP hu) (bO 0) (a8 (f1 T) hr)) (gD (cf (a8 (Uc T) hr)))))) (ag 0))
   (ao (aD nd (qw rfl T.n13 T.n12 (gN ["claim"] (c6 (ag 3)) jd (bO 0))))
   (ao (cI (aL (cP hu) (bA ju T.n7 jv (aH 4 am)) aw) (aR (ah aB am)))
   (ao (cI (km (iu (aL FC (bA ju T.n7 jv (aH 4 am)) aw) (gD (aL (cP hu) (a8 (f1 T) hr) aB)))) (aR (ah aB (aH 4 am))))
   (ao (aD nd (bf (XD T) hr (aH 3 (ah (a8 (f1 T) hr) am))))
   (ao (aD nd (yX TR T.n10 (gN ["claim","person"] (c6 (ag 3)) (eP (aL (cP hu) (bO 0) (ag 1))) (ag 0)) (Cn (Ud T) (hr.in1.mono (by decide)) rfl) hr))
   (bi (aR (ah aB (aH 5 (ah (bO 6) am)))))))))))
theorem Ue:Fn P w K mg base 7 "is_held_by" cQ:=T.d19.fq T.hX mV ["claimed","root","person","day"] 4 λnd hr hu=>
  (bi (ce (cP hu) (Ga (a8 (VR T) hr) Jv (Jw aw)) (aR (ah aB (aH 2 am)))))
theorem XE:Fn P w K mg base 8 "is_first_death" gu:=T.d20.fqL T.hX j7 ["book","known","number","row","deaths"] 3 λnd hr hu jG=>
  (ao (aD nd (aT (ag 0) (ag 2)))
   (ao (aD nd (bf (f10 T) hr (aH 0 (aH 1 (ah (aR (ah aB am)) (ah (a8 (f1 T) hr) (ah (a8 (f2 T) hr) am)))))))
   (bi (ce (cP hu) (yX TR T.n10 (ag 4) (wS (cap:=[0]) (N':=["each","book"]) (by decide +kernel) T.l20 jG rfl rfl (Cm (by decide +kernel) rfl rfl rfl rfl rfl) rfl (.cons rfl rfl (Or.inl rfl) rfl (pG (by decide +kernel) rfl) (.nil rfl)) rfl hr.in1 (λ_ _ _ _=>rfl) λ_ _ _ _ hr=>have hu:=DC hr;(a8 (f4 T) hr)) hr) (ag 2)))))
theorem XF:Fn P w K mg base 10 "counts" mW:=T.d21.fq T.hX zg ["book","known","so_far","number","row","root"] 4 λnd hr hu=>
  (ao (aD nd (aT (ag 0) (ag 3)))
   (ao (cI (aL (cP hu) (a8 (f0 T) hr) aB) (a8 (XE T) hr))
   (ao (cI (aL mC (a8 (f0 T) hr) (aR (ah aB (ah aB (ah aB am))))) jt)
   (ao (aD nd (G6 (NU hu) (a8 (f7 T) hr) (a8 (f1 T) hr) ⟨rfl,rfl,rfl,rfl⟩))
   (ao (cI (aL FL (ag 5) eQ) jt)
   (ao (cI (aL (cP hu) (a8 (f0 T) hr) aB) jt)
   (bi (gV (a8 (S9 T) hr) (ft (bf (Ue T) hr (aH 2 (aH 5 (ah (a8 (f1 T) hr) (ah (a8 (f2 T) hr) am))))))))))))))
theorem VS:Fn P w K mg base 3 "new_claim" gQ:=T.d22.fq T.hX oR ["row","since","number"] 3 λnd hr hu=>
  (bi (aR (ah (a8 (f1 T) hr) (ah (a8 (f1 T) hr) (aH 1 (ah eQ (aH 2 am)))))))
theorem VT:Fn P w K mg base 3 "ended" pR:=T.d23.fq T.hX C7 ["so_far","offices","person","day","left","claim"] 4 λnd hr hu=>
  (ao (aD nd (bH am))
   (ao (uA (c6 (ag 0)) (Ao 5 nd) eX (bj (eO (km (k8 (aL mC (bO 5) (ag 1)) (k8 (aL (AK hu) (bO 5) (ag 2)) (k7 (gk (km (k8 (cf (a8 (Uc T) hr)) (k7 (aL FC (bO 5) (ag 3)))))))))) (bj (gm (i:=4) (ag 5))) (bj (eO (aL FJ (bO 5) (ag 3)) (bj (gm (i:=4) (aR (ah (bO 5) (aH 2 (ah (bO 5) (aH 3 (ah (bO 5) am)))))))) dI)))))
   (bj (kZ 4))))
theorem XG:Fn P w K mg base 4 "after_choice" iB:=T.d24.fq T.hX kH ["so_far","row","number","since","left"] 3 λnd hr hu=>
  (ao (aD nd (a8 (f1 T) hr))
   (ao (aD nd (bf (VT T) hr (aH 0 (ah (bH (ah (a8 (f1 T) hr) am)) (ah (a8 (f1 T) hr) (aH 3 am))))))
   (bi (ay bx (ag 4) (bH (ah (a8 (VS T) hr) am))))))
theorem XH:Fn P w K mg base 7 "inherited" kI:=T.d25.fq T.hX oS ["book","known","so_far","heirs","number","person","day","told","office","heir"] 5 λnd hr hu=>
  (ao (aD nd (bf (f1 T) hr (ah (aT (ag 0) (ag 4)) (ah aB am))))
   (ao (aD nd (bf (f2 T) hr (ah (aT (ag 0) (ag 4)) am)))
   (ao (aD nd (bH am))
   (ao (QL [5,6] (uA (c6 (qw rfl T.n13 T.n12 (gN ["claim","person","day"] (c6 (ag 2)) (eP (km (iu (aL (cP hu) (bO 0) (ag 1)) (gD (cf (a8 (Uc T) hr)))))) (bO 0)))) (Ao 8 nd) eX (ao (aD nd (GH (NU hu) (ag 3) (aH 8 (aH 5 am)) ⟨rfl,rfl,rfl,rfl⟩))
   (bj (eO (km (iu (aL wC (ag 9) eQ) (gD (cf (a8 (f11 T) hr))))) (bj (gm (i:=7) (aR (aH 8 (aH 9 (aH 6 (ah eQ (aH 4 am)))))))) dI)))))
   (bj (kZ 7))))))
theorem XI:Fn P w K mg base 8 "after_death" jh:=T.d26.fq T.hX lH ["book","known","so_far","heirs","number","offices","left"] 5 λnd hr hu=>
  (ao (mP ["claim"] nd (c6 (ag 2)) jd (bO 0))
   (ao (aD nd (bf (VT T) hr (aH 2 (aH 5 (ah (bf (f1 T) hr (ah (aT (ag 0) (ag 4)) (ah aB am))) (ah (bf (f2 T) hr (ah (aT (ag 0) (ag 4)) am)) am))))))
   (bi (ay bx (ag 6) (a8 (XH T) hr)))))
theorem Uf:Fn P w K mg base 11 "claims" kJ:=T.d27.fq T.hX zh ["book","known","so_far","heirs","number","row"] 2 λnd hr hu=>
  (ao (aD nd (bH am))
   (ao (JV (i:=3) nd)
   (ao (uA (c6 (a8 (f5 T) hr)) (Ao 4 nd) eX (ao (aD nd (aT (ag 0) (ag 4)))
   (ao (eO (gk (cf (a8 (XF T) hr))) (bj J7) dI)
   (bj (eO (aL (cP hu) (a8 (f0 T) hr) aB) (bj (aD nd (ay bx (ag 2) (bH (ah (bf (VS T) hr (aH 5 (ah (a8 (f2 T) hr) (aH 4 am)))) am))))) (bj (eO (aL (cP hu) (a8 (f0 T) hr) aB) (bj (aD nd (a8 (XG T) hr))) (bj (eO (aL (cP hu) (a8 (f0 T) hr) aB) (bj (JY (i:=3) (NU hu) (a8 (f1 T) hr) (ah (a8 (f1 T) hr) (ah (a8 (f1 T) hr) am)))) (bj (aD nd (a8 (XI T) hr))))))))))))
   (bi (G0 Gy T.n13 (ag 2) (Cn (f6 T) (hr.in1.in1.mono (by decide)) rfl))))))
theorem VU:Fn P w K mg base 2 "is_paper" fF:=T.d28.fq T.hX rj ["book","known","number"] 3 λnd hr hu=>
  (bi (gV (a8 (f8 T) hr) (ft (ce mB (bf (f0 T) hr (ah (aT (ag 0) (ag 2)) am)) (yv T.k0)))))
theorem VV:Fn P w K mg base 2 "is_leave" gw:=T.d29.fq T.hX rm ["book","known","number"] 3 λnd hr hu=>
  (bi (gV (a8 (f8 T) hr) (ft (ce (cP hu) (bf (f0 T) hr (ah (aT (ag 0) (ag 2)) am)) aB))))
theorem Ug:Fn P w K mg base 3 "is_borne" eB:=T.d30.fq T.hX rq ["book","known","number"] 3 λnd hr hu=>
  (bi (BK (a8 (VV T) hr) (ft (a8 (VU T) hr))))
theorem VW:Fn P w K mg base 1 "covers" iC:=T.d31.fq T.hX rz ["matters","some"] 2 λnd hr hu=>
  (bi (ce (cP hu) (ay Q4 (ag 0) (ag 1)) (ag 1)))
theorem VX:Fn P w K mg base 3 "reach_bar" iW:=T.d32.fq T.hX oU ["row","above"] 2 λnd hr hu=>
  (ao (cI (gk (cf (bf (VW T) hr (ah (a8 (f1 T) hr) (ah (a8 (f1 T) hr) am))))) aB)
   (ao (cI (km (iu (aL (cP hu) (a8 (f0 T) hr) aB) (gD (aL T9 (a8 (f1 T) hr) (a8 (f1 T) hr))))) aB)
   (bi eQ)))
theorem XJ:Fn P w K mg base 8 "office_bar" ib:=T.d33.fq T.hX ng ["claimed","row","root"] 3 λnd hr hu=>
  (ao (cI (gk (cf (bf (Ue T) hr (aH 0 (aH 2 (ah (a8 (f1 T) hr) (ah (a8 (f2 T) hr) am))))))) aB)
   (bi (a8 (VX T) hr)))
theorem XM:Fn P w K mg base 9 "office_bases" iD:=T.d34.fq T.hX kK ["book","known","claimed","number","row","bearing"] 4 λnd hr hu=>
  (ao (aD nd (aT (ag 0) (ag 3)))
   (ao (mP ["root","claimed","row"] nd (Ct (a8 (f7 T) hr)) (eP (aL FL (a8 (XJ T) hr) eQ)) (ag 0))
   (bi (gN ["root","claimed","row"] (c6 (ag 5)) jd (aR (ah aB (ah (a8 (f1 T) hr) (ah (aT (bf (VR T) hr (aH 1 (aH 0 (ah (a8 (f2 T) hr) am)))) aw) am))))))))
theorem XN:Fn P w K mg base 1 "ends_within" ji:=T.d35.fq T.hX lI ["stop","bound"] 2 λnd hr hu=>
  (ao (cI (aL FL (ag 1) eQ) jt)
   (bi (gV (ce wC (ag 0) eQ) (ft (ce m9 (ag 0) (ag 1))))))
theorem XO:Fn P w K mg base 2 "is_within" iX:=T.d36.fq T.hX oV ["one","other"] 2 λnd hr hu=>
  (bi (gV (ce m9 (bO 1) (bO 0)) (ft (bf (XN T) hr (ah (bO 0) (ah (bO 1) am))))))
theorem VY:Fn P w K mg base 5 "is_ahead" gz:=T.d37.fq T.hX r0 ["book","one","other"] 3 λnd hr hu=>
  (bi (ce (QP hu) (a8 (f4 T) hr) (a8 (f4 T) hr)))
theorem XQ:Fn P w K mg base 6 "leave_bar" iY:=T.d38.fq T.hX oW ["book","number","leave","row","stretch"] 3 λnd hr hu=>
  (ao (aD nd (aT (ag 0) (ag 1)))
   (ao (aD nd (bf (f1 T) hr (ah (aT (ag 0) (ag 2)) (ah aB am))))
   (ao (cI (gk (cf (a8 (VY T) hr))) aB)
   (ao (cI (km (k8 (gk (cf (bf (VQ T) hr (ah (a8 (f2 T) hr) (aH 4 am))))) (k7 (gk (cf (bf (XO T) hr (ah (a8 (f1 T) hr) (aH 4 am)))))))) aB)
   (bi (bf (VX T) hr (aH 3 (ah (aT (ag 0) (ag 2)) am))))))))
theorem XR:Fn P w K mg base 3 "leaves_to" kL:=T.d39.fq T.hX oZ ["book","known","person","leaves"] 3 λnd hr hu=>
  (ao (mP ["number","book","known"] nd (c6 (a8 (f3 T) hr)) (eP (cf (a8 (VV T) hr))) (ag 0))
   (bi (gN ["number","person","book"] (c6 (ag 3)) (eP (aL (cP hu) (bf (f1 T) hr (ah (aT (ag 2) (ag 0)) (ah aB am))) (ag 1))) (ag 0))))
theorem XS:Fn P w K mg base 7 "leave_bases" jj:=T.d40.fq T.hX lJ ["book","known","number","leaves"] 3 λnd hr hu=>
  (ao (aD nd (bf (XR T) hr (aH 0 (aH 1 (ah (bf (f1 T) hr (ah (aT (ag 0) (ag 2)) (ah aB am))) am)))))
   (bi (gN ["leave","book","number"] (c6 (ag 3)) (eP (aL FL (a8 (XQ T) hr) eQ)) (aR (ah aB (aH 0 am))))))
theorem XT:Fn P w K mg base 6 "copy_bases" jP:=T.d41.fq T.hX ni ["book","known","number","of"] 3 λnd hr hu=>
  (ao (aD nd (bf (f1 T) hr (ah (aT (ag 0) (ag 2)) (ah aB am))))
   (ao (cI (km (iu (cf (a8 (VU T) hr)) (gD (cf (a8 (VY T) hr))))) (bH (ah (aR (ah aB (aH 3 am))) am)))
   (bi (bH am))))
theorem VZ:Fn P w K mg base 10 "bases_by" eC:=T.d42.fqL T.hX r6 ["book","known","claimed","number","found"] 4 λnd hr hu jG=>
  (ao (cI (gk (cf (a8 (Ug T) hr))) (bH am))
   (ao (cI (aL (cP hu) (bf (f0 T) hr (ah (aT (ag 0) (ag 3)) am)) aB) (a8 (XT T) hr))
   (ao (aD nd (ay bx (a8 (XM T) hr) (a8 (XS T) hr)))
   (bi (G0 (GL hu) T.n13 (ag 4) (wS (cap:=[]) (N':=["base"]) (by decide +kernel) T.l42 jG rfl rfl (Cm (by decide +kernel) rfl rfl rfl rfl rfl) rfl (.nil rfl) rfl hr.in1.in1 (λ_ _ _ _=>rfl) λ_ _ _ _ hr=>have hu:=DC hr;(aR (ah (aT (ag 0) (F6 FK aw)) (aH 0 am)))))))))
theorem XU:Fn P w K mg base 8 "may_call" lZ:=T.d43.fq T.hX r9 ["book","known","claimed","call","number","row","caller","over"] 5 λnd hr hu=>
  (ao (aD nd (aT (ag 0) (ag 4)))
   (ao (aD nd (bf (f1 T) hr (ah (aT (ag 0) (ag 3)) (ah aB am))))
   (ao (cI (aL (cP hu) (ag 6) (a8 (f1 T) hr)) jt)
   (ao (cI (aL (cP hu) (a8 (f0 T) hr) aB) jt)
   (ao (mP ["root","row"] nd (Ct (a8 (f7 T) hr)) (eP (cf (bf (VW T) hr (ah (a8 (f1 T) hr) (ah (a8 (f1 T) hr) am))))) (ag 0))
   (bi (bA FW T.n1 FX (ah (gN ["root","claimed","caller","book","call"] (c6 (ag 7)) jd (bf (Ue T) hr (aH 1 (aH 0 (aH 2 (ah (bf (f2 T) hr (ah (aT (ag 3) (ag 4)) am)) am)))))) am))))))))
theorem XV:Fn P w K mg base 10 "calls_in" jQ:=T.d44.fq T.hX rA ["book","known","claimed","call","number","day","row"] 6 λnd hr hu=>
  (ao (aD nd (aT (ag 0) (ag 3)))
   (ao (cI (km (k8 (aL (AK hu) (a8 (f0 T) hr) aB) (k8 (aL (AK hu) (a8 (f1 T) hr) (ag 4)) (k7 (aL FC (a8 (f2 T) hr) (ag 5)))))) jt)
   (bi (gV (a8 (S9 T) hr) (ft (a8 (XU T) hr))))))
theorem Wa:Fn P w K mg base 11 "calls_by" jR:=T.d45.fq T.hX rB ["book","known","claimed","number","day"] 5 λnd hr hu=>
  (ao (cI (gk (cf (a8 (Ug T) hr))) (bH am))
   (bi (gN ["call","book","known","claimed","number","day"] (c6 (a8 (f3 T) hr)) (eP (cf (a8 (XV T) hr))) (ag 0))))
theorem XW:Fn P w K mg base 12 "is_fit" nj:=T.d46.fq T.hX zi ["book","known","claimed","number","day"] 5 λnd hr hu=>
  (ao (cI (km (k8 (gk (cf (a8 (S9 T) hr))) (k7 (aL FC (bf (f2 T) hr (ah (aT (ag 0) (ag 3)) am)) (ag 4))))) jt)
   (bi (ce (cP hu) (bA ju T.n7 jv (ah (a8 (Wa T) hr) am)) aw)))
theorem Wb:Fn P w K mg base 13 "links" nn:=T.d47.fq T.hX C8 ["book","known","day","claimed","found","number"] 3 λnd hr hu=>
  (ao (Js (i:=3) nd (a8 (Uf T) hr))
   (ao (Cs (i:=4) nd)
   (ao (uA (c6 (a8 (f5 T) hr)) (Ao 5 nd) eX (bj (eO (km (iu (cf (a8 (Ug T) hr)) (gD (cf (a8 (XW T) hr))))) (bj (GP (i:=4) (NU hu) (a8 (VZ T) hr) (ag 5))) dI)))
   (bj (kZ 4)))))
theorem XX:Fn P w K mg base 1 "bears" np:=T.d48.fq T.hX C9 ["base","among"] 2 λnd hr hu=>
  (bi (BK (ce (cP hu) (bO 0) aB) (ft (Ob (NU hu) (bO 0) (ag 1)))))
theorem Uh:Fn P w K mg base 2 "stood" jS:=T.d49.fq T.hX CA ["found","stands","number","resting"] 1 λnd hr hu=>
  (ao (Cs (i:=1) nd)
   (ao (uA (za (ag 0)) (wc rfl (eV (Ao 2 nd) (eV (Ao 3 nd) mq))) LF (bj (eO (cf (bA FW T.n1 FX (ah (gN ["base","stands"] (c6 (ag 3)) jd (a8 (XX T) hr)) am))) (bj (JX (i:=1) (NU hu) jt (ag 2))) dI)))
   (bj (kZ 1))))
theorem XY:Fn P w K mg base 14 "standing" ma:=T.d50.fq T.hX rC ["book","known","day"] 3 λnd hr hu=>
  (bi (bA (Ef rfl) T.n13 mE (ah (bf (Uh T) hr (ah (a8 (Wb T) hr) am)) am)))
theorem XZ:Fn P w K mg base 14 "leaning" lr:=T.d51.fq T.hX uJ ["book","known","day","number","found","left"] 4 λnd hr hu=>
  (ao (aD nd (a8 (Wb T) hr))
   (ao (aD nd (bf (Uh T) hr (ah (fK (GD rfl) T.n3 GC (ah (gN ["each","resting","number"] (za (ag 4)) (eP (aL (AK hu) (ag 0) (ag 2))) (aR (aH 0 (aH 1 am)))) am)) am)))
   (bi (bA yT T.n13 mE (ah (gN ["each","left"] (Kd (a8 (Uh T) hr)) (eP (DV (NU hu) (ag 0) (ag 1))) (ag 0)) am)))))
theorem HJ:Fn P w K mg base 1 "_law_cell" di:=T.d52.fq T.hX zl ["_law_script","_law_k","_law_cell_here"] 2 λnd hr hu=>
  (ao (aD nd aw)
   (ao (eO (aL FC (bA ju T.n7 jv (aH 0 am)) aw) (bj (aD nd (aT (ag 0) (ay bN (ag 1) (bA ju T.n7 jv (aH 0 am)))))) dI)
   (ao (aD nd (ay bN (ay dc (ay bx (ay bx (ay bN (ag 2) aw) (ay dc aw (ag 1))) aw) aw) aw))
   (bi (ay bN (ay dc (ag 2) (ay bx (ay bx (ay bN (ag 2) aw) (ag 1)) aw)) aw)))))
theorem Ya:Fn P w K mg base 1 "_law_names" om:=T.d53.fq T.hX uK ["_law_cell_here","_law_letters","_law_base","_law_at","_law_names_here","_law_k","_law_name"] 1 λnd hr hu=>
  (ao (aD nd aB)
   (ao (mP ["_law_k","_law_letters","_law_cell_here"] nd (FR T.n11 (ay bx aw (ay bN (ag 0) aw))) jd (aT (ag 1) (ay bN (ay bQ (ag 2) (ay bx aw (ay dc aw (ag 0)))) aw)))
   (ao (aD nd (ay bN (ay bQ (ag 0) aw) (bA ju T.n7 jv (aH 2 am))))
   (ao (aD nd (bH am))
   (ao (uB (iz T.n11 aw) (Ao 5 nd) eX (ao (aD nd (fK Gd T.n8 AL (aH 2 am)))
   (ao (Gg (i:=6) (aT (ag 1) (ay bN (ay bx (ay bQ (ag 0) aw) (ay dc aw (ag 5))) aw)) (ag 3))
   (bj (gm (i:=4) (NG PySem.F.slot_str_join PySem.F.type_str_join NI Gb aB (ag 6)))))))
   (ao (eO (aL (cP hu) (ay bN (ay bQ (ag 0) aw) aw) aw) (bj (Gg (i:=4) (bO 4) aw)) dI)
   (bj (kZ 4))))))))
theorem Wc:Fn P w K mg base 1 "_law_stretch" gR:=T.d54.fq T.hX pb ["_law_cell_here","_law_day","_law_measure","_law_some"] 3 λnd hr hu=>
  (ao (aD nd (bH (ah (aR (bZ (ah eQ am))) (ah (aR (aH 1 (ah eQ am))) (ah (aR (aH 1 (ah (ay bx (ag 1) (ay dc aw (ag 2))) am))) (ah (aR (bZ (ah (ay bx (ag 1) (ay dc aw (ag 2))) am))) (ah (aR (bZ (ah (ay dc aw (ag 2)) am))) am)))))))
   (ao (aD nd (ay bx (ag 3) (bH (ah (aR (ah (ay bx (ag 1) (ag 2)) (ah (ay bx (ag 1) (ay dc aw (ag 2))) am))) (ah (aR (ah (ay bQ (ag 1) aw) (ah (ay bx (ag 1) (ay dc aw (ag 2))) am))) (ah (aR (bZ (ah eQ am))) am))))))
   (bi (aT (ag 3) (ay bN (ag 0) aw)))))
theorem Yb:Fn P w K mg base 2 "_law_deed" rE:=T.d55.fq T.hX zm ["_law_many","_law_cell_here","_law_other","_law_names_here","_law_day","_law_had","_law_measure","_law_kinds","_law_word","_law_by","_law_person","_law_of","_law_matters","_law_further","_law_start"] 7 λnd hr hu=>
  (ao (aD nd (ay bx (ay bx (GF (bH (ah aB am)) aw) (GF (bH (ah aB am)) aw)) (bH (ah aB (ah aB (ah aB (ah aB (ah aB am))))))))
   (ao (aD nd (ay bx (ag 7) (bH (ah aB (ah aB (ah aB (ah aB (ah aB (ah aB am)))))))))
   (ao (aD nd (aT (ag 7) (ay bN (ag 1) aw)))
   (ao (aD nd (aT (ag 5) (ay F9 (F6 FK aw) (ay bN (ay bQ (ag 1) aw) (bA QE T.n10 QB (bZ (ah (bA ju T.n7 jv (aH 5 am)) am)))))))
   (ao (eO (aL (cP hu) (ay bN (ay bQ (ag 1) aw) aw) aw) (bj (aD nd (aT (ag 3) (ay bN (ay bQ (ag 1) aw) aw)))) dI)
   (ao (aD nd (aT (ag 3) (ay bN (ay bQ (ag 1) aw) aw)))
   (ao (aD nd (bA QD T.n9 QA (bZ (ah (ay F9 (ay F9 (ag 0) aw) (ay bN (ag 2) aw)) am))))
   (ao (eO (aL (cP hu) (ay bN (ay bQ (ag 2) aw) aw) aw) (bj (aD nd (ay bN (ay bQ (ag 2) aw) aw))) dI)
   (ao (eO (aL (cP hu) (ag 8) aB) (ao (aD nd (by refine aT (hs:=?_) ?_ ?_;refine bH ?_;refine bZ ?_;refine bZ ?_;refine bZ ?_;refine bZ ?_;refine bZ ?_;refine bZ ?_;refine bZ ?_;refine bZ ?_;exact am;exact(ay bN (ay bQ (ag 1) aw) aw);intro _ _;rfl))
   (ao (aD nd (ay bN (ay bQ (ag 2) aw) (aT (bH (bZ (bZ (bZ (bZ am))))) (ay bN (ay bQ (ag 2) aw) aw))))
   (bi (aR (aH 8 (aH 4 (aH 9 (aH 10 (aH 12 (ah (bf (Wc T) hr (ah (ay bQ (ag 2) aw) (aH 4 (aH 6 am)))) (aH 13 am))))))))))) dI)
   (ao (eO (km (k8 (aL (cP hu) (ag 8) aB) (k7 (aL (cP hu) (ag 8) aB)))) (ao (aD nd (by refine aT (hs:=?_) ?_ ?_;refine bH ?_;refine bZ ?_;refine bZ ?_;refine bZ ?_;refine bZ ?_;refine bZ ?_;refine bZ ?_;refine bZ ?_;refine bZ ?_;exact am;exact(ay bN (ay bQ (ag 1) aw) aw);intro _ _;rfl))
   (ao (aD nd (aR (aH 8 (aH 4 (aH 9 (aH 12 (ah (bf (Wc T) hr (ah (ay bQ (ag 2) aw) (aH 4 (aH 6 am)))) (ah (aT (bH (ah eQ (aH 10 am))) (ay bN (ay bQ (ag 2) aw) aw)) am))))))))
   (ao (cI (aL (cP hu) (ag 8) aB) (ay G4 (ag 14) (aR (aH 11 (ah (aR (ah (aR (bZ (aH 10 am))) am)) am)))))
   (bi (ay G4 (ag 14) (aR (ah (aR (aH 10 am)) am))))))) dI)
   (ao (cI (aL mB (ag 8) (aR (ah aB (ah aB am)))) (aR (aH 8 (aH 4 (aH 9 (aH 11 am))))))
   (ao (cI (aL (cP hu) (ag 8) aB) (aR (aH 8 (aH 4 (ah (aT (ag 3) (ay bx aw (ay bN (ag 2) aw))) (aH 10 am))))))
   (ao (cI (aL (cP hu) (ag 8) aB) (aR (aH 8 (aH 4 (aH 9 (ah (aT (ag 3) (ay bx aw (ay bN (ag 2) aw))) (aH 10 (ah (ay bx (ag 4) (ay dc (ay bN (ay bQ (ag 2) aw) aw) (ag 6))) am))))))))
   (ao (cI (aL (cP hu) (ag 8) aB) (aR (aH 8 (aH 4 (aH 9 (ah (aT (ag 3) (ay bx aw (ay bN (ag 2) aw))) (aH 10 am)))))))
   (bi (aR (aH 8 (aH 4 (aH 9 am)))))))))))))))))))
theorem Yc:Fn P w K mg base 3 "_law_rows" rF:=T.d56.fq T.hX zn ["_law_script","_law_names_here","_law_measure","_law_most","_law_head","_law_rows_here","_law_had","_law_k","_law_rule","_law_matters","_law_late","_law_further","_law_cell_here","_law_day","_law_deed_here"] 4 λnd hr hu=>
  (ao (aD nd (bf (HJ T) hr (aH 0 (bZ am))))
   (ao (aD nd (bH am))
   (ao (aD nd (bH am))
   (ao (uB (iz T.n11 (ay bx aw (ay bN (ag 4) aw))) (Ao 7 nd) eX (ao (aD nd (aT (bH (ah aB (ah aB (ah aB am)))) (ay bN (ay bQ (ag 4) (ay bx aw (ay dc aw (ag 7)))) aw)))
   (ao (aD nd (aT (bH (bZ (bZ (bZ (bZ am))))) (ay bN (ay bQ (ag 4) (ay bx aw (ay dc aw (ag 7)))) aw)))
   (ao (aD nd (ay dc (ay dc (fK LK T.n5 FN (ah (ce (cP hu) (ay bN (ay bQ (ag 4) (ay bx aw (ag 7))) aw) aw) am)) aw) (ag 2)))
   (ao (aD nd (ay bN (ay bQ (ag 4) (ay bx aw (ay dc aw (ag 7)))) (aT (bH (bZ (bZ (bZ am)))) (ay bN (ay bQ (ag 4) (ay bx aw (ag 7))) aw))))
   (ao (gm (i:=5) (aR (aH 10 (ah (aR (ah aB (ah (aT (ag 1) (ay bx aw (ag 7))) (aH 9 (aH 11 (aH 8 am)))))) am))))
   (ao (gm (i:=5) (aR (bZ (ah (aR (ah aB (bZ (ah (aT (ag 1) (ay bx aw (ag 7))) (ah (aT (ag 1) (ag 7)) am))))) am))))
   (bj (gm (i:=6) (aT (ag 1) (ag 7)))))))))))
   (ao (uB (iz T.n11 (ay bx aw (ay bN (bf (HJ T) hr (aH 0 (bZ am))) (ag 3)))) (Ao 7 nd) eX (ao (aD nd (bf (HJ T) hr (aH 0 (ah (ay bx aw (ag 7)) am))))
   (ao (aD nd (ay dc (ay bx (ay bQ (ag 7) aw) (ay bN (ay bQ (ag 12) aw) aw)) (ag 2)))
   (ao (aD nd (bf (Yb T) hr (ah (bA ju T.n7 jv (aH 5 am)) (ah (bf (HJ T) hr (aH 0 (ah (ay bx aw (ag 7)) am))) (ah (bf (HJ T) hr (aH 0 (ah (ay bx aw (ag 7)) am))) (aH 1 (aH 13 (aH 6 (aH 2 am)))))))))
   (ao (eO (aL mB (bO 14) (aR (ah aB (ah aB am)))) (bj (gm (i:=6) (bO 14))) dI)
   (ao (eO (aL (cP hu) (bO 14) aB) (bj (gm (i:=6) (bO 14))) dI)
   (bj (gm (i:=5) (aR (ah (ay bx (ag 13) (ay dc (by refine aT (hs:=?_) ?_ ?_;refine bH ?_;refine bZ ?_;refine bZ ?_;refine bZ ?_;refine bZ ?_;refine bZ ?_;refine bZ ?_;exact am;exact(ay bN (ay bQ (ag 12) aw) aw);intro _ _;rfl) (ag 2))) (aH 14 am)))))))))))
   (bi (fK BZ T.n14 BU (aH 5 am))))))))
theorem Yd:Fn P w K mg base 12 "calls" pT:=T.d57.fq T.hX CB ["book","known","number","day"] 4 λnd hr hu=>
  (bi (bf (Wa T) hr (aH 0 (aH 1 (ah (a8 (Uf T) hr) (aH 2 (aH 3 am)))))))
theorem Ye:Fn P w K mg base 12 "bases" xc:=T.d58.fq T.hX CC ["book","known","number"] 3 λnd hr hu=>
  (bi (bf (VZ T) hr (aH 0 (aH 1 (ah (a8 (Uf T) hr) (aH 2 am))))))
theorem Yf:Fn P w K mg base 13 "_law_bearers" kM:=T.d59.fq T.hX pe ["_law_rows_here","_law_known","_law_day","_law_order","_law_k","_law_there","_law_deed_here"] 3 λnd hr hu=>
  (ao (aD nd (bH am))
   (ao (uB (iz T.n11 (bA ju T.n7 jv (aH 0 am))) (Ao 4 nd) eX (ao (J8 (is:=[5,6]) (aT (ag 0) (ag 4)) (NL rfl (eV (Ao 5 nd) (eV (Ao 6 nd) mq))))
   (bj (eO (km (iu (aL m9 (ag 5) (ag 1)) (iu (aL mB (bO 6) (aR (ah aB (ah aB (ah aB (ah aB am)))))) (gD (aL m9 (bO 6) (ag 2)))))) (bj (eO (km (iu (cf (a8 (S9 T) hr)) (gD (aL (cP hu) (a8 (Yd T) hr) (bH am))))) (bj (gm (i:=3) (aR (ah (bO 6) (aH 4 am))))) dI)) dI))))
   (bi (gN ["_law_when","_law_k","_law_rows_here","_law_known"] (c6 (bA yT T.n13 mE (aH 3 am))) jd (aR (aH 1 (ah (a8 (Ye T) hr) am)))))))
theorem Yg:Fn P w K mg base 1 "_law_stand" ls:=T.d60.fq T.hX uL ["_law_bearers_here","_law_without","_law_stand_here","_law_k","_law_some"] 2 λnd hr hu=>
  (ao (aD nd (bH am))
   (ao (uA (c6 (ag 0)) (wc rfl (eV (Ao 3 nd) (eV (Ao 4 nd) mq))) LF (bj (eO (km (iu (aL (AK hu) (ag 3) (ag 1)) (gD (cf (bA FW T.n1 FX (ah (gN ["_law_base","_law_stand_here"] (c6 (ag 4)) jd (BK (ce (cP hu) (bO 0) aB) (ft (ce mB (aT (ag 0) (F6 FK aw)) (ag 1))))) am)))))) (bj (gm (i:=2) (ag 3))) dI)))
   (bj (kZ 2))))
theorem head {fa:Addr}(UB:mg "law" = some (.ref fa)):∃fd:FuncData,(∀(s:Shared)(u:Value),BindsTo s fd ⟨[u],[]⟩ [("_law_script",u)])/\∀base:Heap,K.In base->base.Ns mainGlobals mg->tH P w K mg base Ak 15 fa fd ["_law_script"] (Ju K F_law):=by
 have S:FnScope ["_law_script","_law_names_here","_law_measure","_law_rows_here","_law_known","_law_handed","_law_day","_law_stand_here","_law_bearers_here","_law_number","_law_due","_law_left","_law_turn","_law_found"] ["_law_script"] (aQ (fH 72)):=by refine⟨rfl,rfl,rfl,?_,rfl,?_,?_⟩<;>decide +kernel
 have ⟨h,X,G⟩:=T.hX;exact dN.law T.d61 X G UB S (λ_ _ _ _ _ _ u=>rfl) λbase kb nb f eU A outer s H E hr=>have hu:=DC hr;have nd:=S.nd;(show xG _ _ LQ from
  (ao (aD nd (bf (Ya T) hr (ah (bf (HJ T) hr (aH 0 (bZ am))) am)))
   (ao (aD nd (aT (bH (bZ (bZ (bZ am)))) (ay bN (bf (HJ T) hr (aH 0 (bZ am))) aw)))
   (ao (aD nd (bf (Yc T) hr (aH 0 (aH 1 (aH 2 (bZ am))))))
   (ao (aD nd (aT (bH (bZ (ah (ay dc (ay bN (ay bQ (bf (HJ T) hr (aH 0 (bZ am))) aw) aw) (ag 2)) am))) (ay bQ (ay bN (bf (HJ T) hr (aH 0 (bZ am))) aw) aw)))
   (ao (aD nd (fK BZ T.n14 BU (ah (fK Gd T.n8 AL (aH 3 am)) am)))
   (ao (aD nd (aT (bH (bZ (ah (ay dc (ay bN (ay bQ (bf (HJ T) hr (aH 0 (bZ am))) aw) aw) (ag 2)) am))) (ay bN (bf (HJ T) hr (aH 0 (bZ am))) aw)))
   (ao (aD nd (a8 (XY T) hr))
   (ao (aD nd (a8 (Yf T) hr))
   (ao (uB (iz T.n11 (bA ju T.n7 jv (aH 3 am))) (Ao 9 nd) eX (ao (aD nd (bH am))
   (ao (eO (aL mB (ag 9) (ag 7)) (ao (aD nd (a8 (Yg T) hr))
   (bj (mP ["_law_k","_law_left"] nd (c6 (ag 7)) (eP (aL mC (ag 0) (ag 1))) (ag 0)))) dI)
   (bj (uB (iz T.n11 (ay bx aw (fK LK T.n5 FN (ah (ce (cP hu) (ay bN (ag 9) aw) aw) am)))) (Ao 12 nd) eX (ao (aD nd (a8 (XZ T) hr))
   (ao (cI (km (k8 (gk (cf (bA jL T.n6 jK (aH 13 (ah (FI T.n8 AL) am))))) (k8 (aL (AK hu) (ag 13) (ag 10)) (k7 (aL (AK hu) (ce mB (ag 9) (ag 7)) (ce mB (ag 9) (ag 13))))))) jt)
   (ao (cI (gk (cf (bA QI T.n0 QC (ah (gN ["_law_one"] (c6 (ag 13)) jd (gV (bA jL T.n6 jK (aH 0 (ah (FI T.n5 FN) am))) (ft (Nn (bA jL T.n6 jK (aH 0 (ah (FI T.n2 NA) am))))))) am)))) jt)
   (bj (gm (i:=13) (ag 9)))))))))))
   (bi (ce (cP hu) (ag 5) (ag 3)))))))))))))
end
end Lw
end
namespace PySem.W.Fast
def tw9004883525942107992:=()
def tw11338737414601776442:=()
def tw1439065182823956767:=()
def tw10079347317402701845:=()
def tw11647915845826939291:=()
def tw6385063014290413409:=()
def tw16090460840540838556:=()
def tw2079486665926588115:=()
def tw2825650958804198544:=()
def tw17019339667522459274:=()
def tw13674010013644590935:=()
def tw10757794683487588377:=()
def tw11183392480159624783:=()
def tw7418373368764800773:=()
def tw15307654645576495547:=()
def tw10682829067083027757:=()
def tw10307913683293971078:=()
def tw11915282293843593952:=()
def tw13757119976565857522:=()
def tw4559205779254646808:=()
def tw8647590204507096259:=()
def tw12923432162377568747:=()
def tw16774893774664958143:=()
def tw1385526056767544355:=()
def tw2040250998237925713:=()
def tw14915707973294250464:=()
def tw1172571342616516195:=()
def tw9972494316165307513:=()
def tw3704252442497910454:=()
def tw18224621037264832463:=()
def tw5458566644011386073:=()
def tw10740451031472213422:=()
def tw14883207203749392646:=()
def tw877980943916214719:=()
def tw8094815072869486656:=()
def tw14008150619453559613:=()
def tw11790580888128037640:=()
def tw6086284637940573263:=()
def tw16689071628319310803:=()
def tw1105210830418933751:=()
def tw17159209821800078675:=()
def tw17890439955932726140:=()
def tw2523644598705672719:=()
def tw7751696849396215638:=()
def tw7859742827771163547:=()
def tw17926395047130633352:=()
def tw9807795500617479586:=()
def tw15795928476842377985:=()
def tw7824353492500254934:=()
def tw16740947868860658454:=()
def tw17991250815786682089:=()
def tw817629261222234828:=()
def tw13573155373397649888:=()
def tw13645674570345927221:=()
def tw3318024167396562479:=()
def tw10363038508677850448:=()
def tw4415316544971170430:=()
def tw17809114475006744744:=()
def tw139591049302118890:=()
def tw16418572168770429394:=()
def tw2613951167880741134:=()
def tw10590309688883781315:=()
def tw10441092301523470741:=()
def tw3618758197131637129:=()
def tw6951229965348515614:=()
def tw16177053173141624293:=()
def tw3703127301812291718:=()
def tw4474964338862373423:=()
def tw10545462498187018015:=()
def tw9578858760775415289:=()
def tw9012869806845571762:=()
def tw17719439539907724910:=()
def tw347707325076013408:=()
def tw2567769625382360706:=()
def tw784902974991306573:=()
def tw12692846931822505922:=()
def tw9983554418797700175:=()
def tw538233072970926616:=()
def tw12185757126334900234:=()
def tw4079503682772767828:=()
def tw12191629509267714027:=()
def tw14263775152842110256:=()
def tw15572917706340991715:=()
def tw6011279694500530660:=()
def tw11224828642067625758:=()
def tw9239653948228669399:=()
def tw12265820018126472105:=()
def tw2069845148348573374:=()
def tw7350172969710323566:=()
def tw6135175932827907782:=()
def tw15415909176165135068:=()
def tw5575650867617798146:=()
def tw45673825103429853:=()
def tw15846680814566292344:=()
def tw511346618340920332:=()
def tw4010754009049146223:=()
def tw16068289193279850576:=()
def tw13295028503728597049:=()
def tw17947379365714538970:=()
def tw8771007525635553332:=()
def tw12306544723589357972:=()
def tw17180941554850638013:=()
def tw14840618111116452424:=()
def tw8998865650568262808:=()
def tw13906324074513445575:=()
def tw943575483837267464:=()
def tw4457979668312315159:=()
def tw6563885755012785056:=()
def tw3700284360983031129:=()
def tw13718244399316665378:=()
def tw2895339944960477484:=()
def tw8686537588697816974:=()
def tw15338552784246358243:=()
def tw69464495526529021:=()
def tw5817810286520036763:=()
def tw6807326270649990181:=()
def tw13193021112722857321:=()
def tw13547239601931550878:=()
def tw1078342885893015624:=()
def tw3943456473890790168:=()
def tw7827303557722587802:=()
def tw14543096276461682402:=()
def tw4296587761889338077:=()
def tw17964897071378238922:=()
def tw11191013595177056518:=()
def tw5676901760231588841:=()
def tw15841889516029828639:=()
def tw11840603048516865897:=()
end PySem.W.Fast
open PySem PySem.W PyProof.Rows
set_option maxRecDepth 100000 in
set_option maxHeartbeats 0 in
theorem PySem.Challenge.cw_sealchain_k35_what_leans_on_a_row_holds : PySem.Challenge.rw_sealchain_k35_what_leans_on_a_row.Holds := by
 w_on; o_law; k_head; (case hw => w_witness2)
 k_fill
 refine' DL.walkD (l := PySem.Challenge.rw_sealchain_k35_what_leans_on_a_row) (k := 15) (x := ("_law_script" : PySem.Str)) (f := Lw.F_law) (L := [(("in_order" : PySem.Str), ?t0), (("has_seal" : PySem.Str), ?t1), (("is_first_death" : PySem.Str), ?t2), (("bases_by" : PySem.Str), ?t3)]) rfl rfl ⟨rfl, by decide, by decide⟩ (fun w h Y => PySem.W.km_in_of Y) ?T ?D ?F Lw.law_true
 case T =>
  intro w
  refine' DL.tabs_fit ?h0 ?h1 ?h2 ?h3 ?ap ?nt
  (case h0 => refine' DL.tab_yes ?a ?l ?c ?m ?v; (case a => k_is); (case l => k_is); (case c => exact rfl); (case m => k_is); (case v => exact rfl))
  (case h1 => refine' DL.tab_yes ?a ?l ?c ?m ?v; (case a => k_is); (case l => k_is); (case c => exact rfl); (case m => k_is); (case v => exact rfl))
  (case h2 => refine' DL.tab_yes ?a ?l ?c ?m ?v; (case a => k_is); (case l => k_is); (case c => exact rfl); (case m => k_is); (case v => exact rfl))
  (case h3 => refine' DL.tab_yes ?a ?l ?c ?m ?v; (case a => k_is); (case l => k_is); (case c => exact rfl); (case m => k_is); (case v => exact rfl))
  (case ap => decide)
  (case nt => kernel_rfl)
 case D => kernel_rfl
 case F =>
  intro w mg fa h KX G hmg
  refine' Lw.head ⟨⟨h, KX, G⟩, ?d0, ?d1, ?d2, ?d3, ?d4, ?d5, ?d6, ?d7, ?d8, ?d9, ?d10, ?d11, ?d12, ?d13, ?d14, ?d15, ?d16, ?d17, ?d18, ?d19, ?d20, ?d21, ?d22, ?d23, ?d24, ?d25, ?d26, ?d27, ?d28, ?d29, ?d30, ?d31, ?d32, ?d33, ?d34, ?d35, ?d36, ?d37, ?d38, ?d39, ?d40, ?d41, ?d42, ?d43, ?d44, ?d45, ?d46, ?d47, ?d48, ?d49, ?d50, ?d51, ?d52, ?d53, ?d54, ?d55, ?d56, ?d57, ?d58, ?d59, ?d60, ?d61, PySem.W.mg_none_of KX G ?z0, PySem.W.mg_none_of KX G ?z1, PySem.W.mg_none_of KX G ?z2, PySem.W.mg_none_of KX G ?z3, PySem.W.mg_none_of KX G ?z4, PySem.W.mg_none_of KX G ?z5, PySem.W.mg_none_of KX G ?z6, PySem.W.mg_none_of KX G ?z7, PySem.W.mg_none_of KX G ?z8, PySem.W.mg_none_of KX G ?z9, PySem.W.mg_none_of KX G ?z10, PySem.W.mg_none_of KX G ?z11, PySem.W.mg_none_of KX G ?z12, PySem.W.mg_none_of KX G ?z13, PySem.W.mg_none_of KX G ?z14, DL.kc_of KX G ?k0, DL.kd_of KX G ?k1, DL.kc_of KX G ?k2, ?q0, ?q1, ?q2, ?q3⟩ hmg
  iterate 62 (refine' DL.def_mk ?a ?l ?c ?k; (case a => k_is); (case l => k_is); (case c => k_is); (case k => k_is))
  (case z0 => k_is)
  (case z1 => k_is)
  (case z2 => k_is)
  (case z3 => k_is)
  (case z4 => k_is)
  (case z5 => k_is)
  (case z6 => k_is)
  (case z7 => k_is)
  (case z8 => k_is)
  (case z9 => k_is)
  (case z10 => k_is)
  (case z11 => k_is)
  (case z12 => k_is)
  (case z13 => k_is)
  (case z14 => k_is)
  (case k0 => refine' DL.const_tup ?e ?l ?v; (case e => k_is); (case l => k_is); (case v => decide +kernel))
  (case k1 => refine' DL.const_dict ?e ?l ?r ?s; (case e => k_is); (case l => k_is); (case r => refine' (DL.CRows.tup rfl ?l0 ?f0 (DL.CRows.tup rfl ?l1 ?f1 (DL.CRows.tup rfl ?l2 ?f2 (DL.CRows.tup rfl ?l3 ?f3 (DL.CRows.tup rfl ?l4 ?f4 (DL.CRows.tup rfl ?l5 ?f5 (DL.CRows.tup rfl ?l6 ?f6 (DL.CRows.tup rfl ?l7 ?f7 (DL.CRows.tup rfl ?l8 ?f8 (DL.CRows.tup rfl ?l9 ?f9 (DL.CRows.tup rfl ?l10 ?f10 (DL.CRows.tup rfl ?l11 ?f11 DL.CRows.nil)))))))))))); (case l0 => k_is); (case f0 => decide +kernel); (case l1 => k_is); (case f1 => decide +kernel); (case l2 => k_is); (case f2 => decide +kernel); (case l3 => k_is); (case f3 => decide +kernel); (case l4 => k_is); (case f4 => decide +kernel); (case l5 => k_is); (case f5 => decide +kernel); (case l6 => k_is); (case f6 => decide +kernel); (case l7 => k_is); (case f7 => decide +kernel); (case l8 => k_is); (case f8 => decide +kernel); (case l9 => k_is); (case f9 => decide +kernel); (case l10 => k_is); (case f10 => decide +kernel); (case l11 => k_is); (case f11 => decide +kernel)); (case s => decide +kernel))
  (case k2 => refine' DL.const_tup ?e ?l ?v; (case e => k_is); (case l => k_is); (case v => decide +kernel))
  (case q0 => refine' DL.lam_mk ?a ?l ?c ?m ?v1 ?v2 ?v3 ?v4 ?v5 ?v6 ?v7; (case a => k_is); (case l => k_is); (case c => exact rfl); (case m => k_is); (case v1 => exact rfl); (case v2 => exact rfl); (case v3 => exact rfl); (case v4 => exact rfl); (case v5 => exact rfl); (case v6 => exact rfl); (case v7 => decide))
  (case q1 => refine' DL.lam_mk ?a ?l ?c ?m ?v1 ?v2 ?v3 ?v4 ?v5 ?v6 ?v7; (case a => k_is); (case l => k_is); (case c => exact rfl); (case m => k_is); (case v1 => exact rfl); (case v2 => exact rfl); (case v3 => exact rfl); (case v4 => exact rfl); (case v5 => exact rfl); (case v6 => exact rfl); (case v7 => decide))
  (case q2 => refine' DL.lam_mk ?a ?l ?c ?m ?v1 ?v2 ?v3 ?v4 ?v5 ?v6 ?v7; (case a => k_is); (case l => k_is); (case c => exact rfl); (case m => k_is); (case v1 => exact rfl); (case v2 => exact rfl); (case v3 => exact rfl); (case v4 => exact rfl); (case v5 => exact rfl); (case v6 => exact rfl); (case v7 => decide))
  (case q3 => refine' DL.lam_mk ?a ?l ?c ?m ?v1 ?v2 ?v3 ?v4 ?v5 ?v6 ?v7; (case a => k_is); (case l => k_is); (case c => exact rfl); (case m => k_is); (case v1 => exact rfl); (case v2 => exact rfl); (case v3 => exact rfl); (case v4 => exact rfl); (case v5 => exact rfl); (case v6 => exact rfl); (case v7 => decide))

