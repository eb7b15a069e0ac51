import PyProof.Rows.All
import Wide.All
import OpenK.AllK
import Wide.FinOn
import Lean
import PyProof.EqAt
import PyProof.EqKinds
import PyProof.TupleCall
import PyProof.AttrMissHeap
import PySem.Challenge.RW_sealchain_k32_whole_day_by_day
set_option Elab.async false
set_option linter.all false
set_option maxRecDepth 100000
set_option bootstrap.genMatcherCode false
set_option compiler.extract_closed false
set_option maxHeartbeats 40000000
theorem mY {α:Type _}{a:α}(l:List α){k:List α}(h:a∈k):a∈l++k:=List.mem_append_right l h
theorem mZ {α:Type _}(b:α){a:α}{l:List α}(h:a∈l):a∈b::l:=List.mem_cons_of_mem b h
theorem mX {α:Type _}{a:α}{l:List α}:a∈a::l:=List.mem_cons_self
theorem oX {α β:Type _}{o:Option α}{f:α->Option β}{b:β}(h:o.bind f=some b):∃a,o=some a/\f a=some b:=Option.bind_eq_some_iff.mp h
theorem oY {α β:Type _}{f:α->β}{o:Option α}{b:β}(h:o.map f=some b):∃a,o=some a/\f a=b:=Option.map_eq_some_iff.mp h
def wX:=@PySem.wpAny_bind
def wY:=@PySem.wpAny_pure
def vZ:=@PySem.Heap.get?_push_of_some
def vY:=@PySem.Heap.get?_push_size
def vX:=@PySem.Heap.lt_size
def vW:=@PySem.Heap.SameBut.update
theorem vV {α:Type _}{l:List α}{i:Nat}{a:α}(h:l[i]? = some a):∃h:i<l.length,l[i]=a:=List.getElem?_eq_some_iff.mp h
theorem vU {α:Type _}{l:List α}{i:Nat}(h:i<l.length):l[i]? = some l[i]:=List.getElem?_eq_getElem h
theorem vT (n:Nat):n<=n:=Nat.le_refl n
theorem vS {a b:Nat}(h:a<b):a≠b:=Nat.ne_of_lt h
theorem vR {n m k:Nat}:n<=m->m<=k->n<=k:=Nat.le_trans
theorem vQ {n m k:Nat}:n<m->m<=k->n<k:=Nat.lt_of_lt_of_le
theorem vP {α:Type _}{a b:α}{l:List α}(h:b∈a::l):b=a∨b∈l:=List.mem_cons.mp h
theorem vO {α β:Type _}{b:β}{f:α->β}{l:List α}(h:b∈l.map f):∃a,a∈l/\f a=b:=List.mem_map.mp h
theorem vN {α:Type _}{a:α}{p:α->Bool}{l:List α}(h:a∈l.filter p):a∈l/\p a=true:=List.mem_filter.mp h
theorem vM {α:Type _}(p:α->Bool)(l:List α):(l.filter p).length<=l.length:=List.length_filter_le p l
theorem vL {α:Type _}{l:List α}{i:Nat}{a:α}(h:l[i]? = some a):a∈l:=List.mem_of_getElem? h
theorem vK {α:Type _}{a b:α}(h:some a=some b):a=b:=Option.some.inj h
theorem vJ {α β:Type _}(a:α)(f:α->Option β):(some a).bind f=f a:=rfl
theorem vI {α β:Type _}{as:List α}(f:α->β):(as.map f).length=as.length:=List.length_map f
theorem vH {α:Type _}{l:List α}:l.toArray.size=l.length:=rfl
theorem vG {α:Type _}{xs:Array α}:xs.toList.length=xs.size:=rfl
theorem vF {α:Type _}{l:List α}{i:Nat}{a:α}:l.getD i a=l[i]?.getD a:=List.getD_eq_getElem?_getD
theorem vE {α:Type _}{a:α}{as:List α}:(a::as).length=as.length+1:=rfl
theorem vC (a b:Bool):((a && b)=true)=(a=true/\b=true):=Bool.and_eq_true a b
theorem vB {α:Type _}{i j:Nat}{a:α}{l:List α}(h:i≠j):(l.set i a)[j]? = l[j]?:=List.getElem?_set_ne h
theorem vA {α β:Type _}{f:α->β}{l:List α}{i:Nat}:(l.map f)[i]? = Option.map f l[i]?:=List.getElem?_map
theorem uZ {α:Type _}{as bs:List α}:(as++bs).length=as.length+bs.length:=List.length_append
theorem uY {α β:Type _}{f:α->β}{a:α}{l:List α}:(a::l).map f=f a::l.map f:=rfl
theorem uX:false≠true:=Bool.false_ne_true
theorem uW {α β:Type _}{f:α->β}{l l':List α}:(l++l').map f=l.map f++l'.map f:=List.map_append
theorem uV:(false=true)=False:=Bool.false_eq_true
theorem uU {α:Type _}{x:Option α}(h:x.isSome=true):∃a,x=some a:=Option.isSome_iff_exists.mp h
theorem uT {α:Type _}{a b:α}(h:a∈[b]):a=b:=List.mem_singleton.mp h
theorem uS {α β:Type _}{b:β}{f:α->β}{l:List α}(h:∃a,a∈l/\f a=b):b∈l.map f:=List.mem_map.mpr h
theorem uR {α:Type _}{l:List α}{p:α->Bool}(h:l.all p=true):∀x∈l,p x=true:=List.all_eq_true.mp h
theorem uQ {α:Type _}(as:List α):as++[]=as:=List.append_nil as
theorem uP {α β γ:Type _}{g:β->γ}{f:α->β}{l:List α}:(l.map f).map g=l.map (g ∘ f):=List.map_map
theorem uO {α β:Type _}{x:α}{xs:List α}{f:α->List β}:(x::xs).flatMap f=f x++xs.flatMap f:=List.flatMap_cons
theorem uN (n:Nat):0<=n:=Nat.zero_le n
noncomputable section
open PySem.W (Frag fnOf nsIn mg_of)
namespace L2
open PySem PySem.Spec PyProof.Rows
abbrev cw:=Sum Int Str
noncomputable def sA:cw->Value->Bool
 |.inl k,v=>Value.isInt k v
 |.inr x,v=>Value.isStrOf x v
noncomputable def Sr (w:World):cw->Int
 |.inl k=>hashInt k
 |.inr x=>hashStr w x
theorem cF:∀ {k:cw}{v:Value},sA k v=true->(∃i t,k=Sum.inl i/\v=Value.int i t)∨(∃x t,k=Sum.inr x/\v=Value.str x t)
 |.inl i,v,h=>by
  obtain⟨t,e⟩:=Value.isInt_shape (k:=i) (v:=v) h;exact .inl ⟨i,t,rfl,e⟩
 |.inr x,v,h=>by
  obtain⟨t,e⟩:=Value.isStrOf_shape (x:=x) (v:=v) h;exact .inr ⟨x,t,rfl,e⟩
theorem C2 (i:Int)(t:Tok):sA (.inl i) (.int i t)=true:=by simp[sA,Value.isInt]
theorem C3 (x:Str)(t:Tok):sA (.inr x) (.str x t)=true:=by simp[sA,Value.isStrOf]
theorem L6 (a b:Int):decide ((Sum.inl a:cw)=Sum.inl b)=(a == b):=by
 by_cases e:a=b
 ·subst e;simp
 ·have h:¬(Sum.inl a:cw)=Sum.inl b:=λq=>e (Sum.inl.inj q);rw[decide_eq_false h];exact(beq_eq_false_iff_ne.mpr e).symm
theorem L7 (a b:Str):decide ((Sum.inr a:cw)=Sum.inr b)=decide (a=b):=by
 by_cases e:a=b
 ·subst e;simp
 ·have h:¬(Sum.inr a:cw)=Sum.inr b:=λq=>e (Sum.inr.inj q);rw[decide_eq_false h,decide_eq_false e]
theorem L8 (a:Int)(b:Str):decide ((Sum.inl a:cw)=Sum.inr b)=false:=decide_eq_false (λq=>nomatch q)
theorem L9 (a:Str)(b:Int):decide ((Sum.inr a:cw)=Sum.inl b)=false:=decide_eq_false (λq=>nomatch q)
def bZ (prog:Program)(w:World):PySem.KeyKind prog w cw where
 is:=sA
 hash:=Sr w
 inj:=λv a b ha hb=>by
  rcases cF ha with⟨i,t,rfl,rfl⟩|⟨x,t,rfl,rfl⟩
  ·rcases cF hb with⟨j,u,rfl,e⟩|⟨y,u,rfl,e⟩
   ·injection e with e1 _;rw[e1]
   ·exact nomatch e
  ·rcases cF hb with⟨j,u,rfl,e⟩|⟨y,u,rfl,e⟩
   ·exact nomatch e
   ·injection e with e1 _;rw[e1]
 byValue:=λk v h=>by
  rcases cF h with⟨i,t,rfl,rfl⟩|⟨x,t,rfl,rfl⟩<;>rfl
 pyHash:=λhv h=>by
  rcases cF hv with⟨i,t,rfl,rfl⟩|⟨x,t,rfl,rfl⟩
  ·exact wpAny_pyHash_int h
  ·exact wpAny_pyHash_str h
 eqBool:=λhu hv h=>by
  rcases cF hu with⟨i,t,rfl,rfl⟩|⟨x,t,rfl,rfl⟩
  ·rcases cF hv with⟨j,u,rfl,rfl⟩|⟨y,u,rfl,rfl⟩
   ·rw[L6]at h;exact wpAny_eqBool_int h
   ·rw[L8]at h;exact SeqAt.EqAt.int_str i t y u _ _ _ _ h
  ·rcases cF hv with⟨j,u,rfl,rfl⟩|⟨y,u,rfl,rfl⟩
   ·rw[L9]at h;exact SeqAt.EqAt.str_int x t j u _ _ _ _ h
   ·rw[L7]at h;exact wpAny_eqBool_str h
 «strs»:=λk x t v h=>by
  rcases cF h with⟨i,u,rfl,e⟩|⟨y,u,rfl,e⟩
  ·exact nomatch e
  ·injection e with e1 _;subst e1;cases v<;>rfl
theorem wR (prog:Program)(w:World)(i:Int)(t:Tok):(bZ prog w).is (.inl i) (.int i t)=true:=C2 i t
theorem wS (prog:Program)(w:World)(x:Str)(t:Tok):(bZ prog w).is (.inr x) (.str x t)=true:=C3 x t
inductive V where
 |non|bl (b:Bool)|int (i:Int)|str (x:Str)|byt (b:Array UInt8)|flt (b:UInt64)|ref (a:Addr)|ty (n:String)
 deriving DecidableEq
def aX:V->Value->Prop
 |.non,u=>u=Value.none
 |.bl b,u=>u=Value.bool b
 |.int i,u=>∃t,u=Value.int i t
 |.str x,u=>∃t,u=Value.str x t
 |.byt b,u=>∃t,u=Value.bytes b t
 |.flt b,u=>∃t,u=Value.float b t
 |.ref a,u=>u=Value.ref a
 |.ty n,u=>u=Value.type n
abbrev aT:List V->List Value->Prop:=Paired aX
theorem aT.length (r:aT xs us):xs.length=us.length:=Paired.length r
theorem aT.get:∀ {xs:List V}{us:List Value}{i:Nat}{x:V},aT xs us->xs[i]? = some x->∃u,us[i]? = some u/\aX x u
 |_,_,_,_,.nil,e=>by simp at e
 |_,_,0,_,.cons r _,e=>by simp at e;subst e;exact⟨_,rfl,r⟩
 |_,_,i+1,x,.cons _ t,e=>by
  obtain⟨u,h1,h2⟩:=aT.get (i:=i) (x:=x) t (by simpa using e);exact⟨u,by simpa using h1,h2⟩
theorem aT.set (r:aX x u):∀ {xs:List V}{us:List Value}(i:Nat),aT xs us->aT (xs.set i x) (us.set i u)
 |_,_,_,.nil=>.nil
 |_,_,0,.cons _ t=>.cons r t
 |_,_,i+1,.cons q t=>.cons q (aT.set r i t)
theorem aT.append:∀ {xs ys:List V}{us ws:List Value},aT xs us->aT ys ws->aT (xs++ys) (us++ws)
 |_,_,_,_,.nil,s=>s
 |_,_,_,_,.cons r t,s=>.cons r (aT.append t s)
theorem aT.take:∀ {xs:List V}{us:List Value}(n:Nat),aT xs us->aT (xs.take n) (us.take n)
 |_,_,0,_=>.nil
 |_,_,_+1,.nil=>.nil
 |_,_,n+1,.cons r t=>.cons r (aT.take n t)
theorem aT.drop:∀ {xs:List V}{us:List Value}(n:Nat),aT xs us->aT (xs.drop n) (us.drop n)
 |_,_,0,r=>r
 |_,_,_+1,.nil=>.nil
 |_,_,n+1,.cons _ t=>aT.drop n t
theorem aT.none_of:∀ {xs:List V}{us:List Value}{i:Nat},aT xs us->xs[i]? = none->us[i]? = none:=λ{xs us i} r e=>by
 have h1:=r.length;have h2:xs.length<=i:=List.getElem?_eq_none_iff.mp e;exact List.getElem?_eq_none_iff.mpr (by omega)
def oE:Option V->Option Value->Prop
 |some v,some u=>aX v u
 |none,none=>True
 |_,_=>False
def KV {κ:Type}:List (κ×V)->List (κ×Value)->Prop:=Paired λ(p:κ×V) (q:κ×Value)=>p.1=q.1/\aX p.2 q.2
noncomputable def kV:cw->V
 |.inl i=>.int i
 |.inr x=>.str x
inductive HO where
  |lst (xs:List V)
  |tup (xs:List V)
  |dK (aI:List (cw×V)) (ob:Obj)|dT (aI:List (List cw×V))
  |set (S:Int->Bool) (n:Nat)
  |ins (C dx:Addr) (fs:List (Str×V))
  |own (x:Addr)
  |xd (fs:List (Str×V))
  |met (f x:Addr)
  |rng (lo hi:Int)
  |frz (o:Obj) (u:HO)
  |tbl (q:Str)
  |ext (φ:Heap->Prop)
abbrev Hp:=Addr->Option HO
noncomputable def upd (H:Hp)(a:Addr)(o:HO):Hp:=λb=>if b=a then some o else H b
theorem aE:upd H a o a=some o:=by unfold upd;rw[if_pos rfl]
theorem aH (h:b≠a):upd H a o b=H b:=by unfold upd;rw[if_neg h]
theorem Hq:upd (upd H a o) a u=upd H a u:=by
 funext b;unfold upd;split<;>rfl
theorem OO {H:Hp}{a b:Addr}{o u:HO}(h:H a=some o)(h':H b=some u)(d:o≠u):a≠b:=by
 intro e;subst e;rw[h]at h';exact d (vK h')
theorem aV {H:Hp}{a b:Addr}{o:HO}(h:H a=some o)(h':H b=none):a≠b:=by
 intro e;subst e;rw[h]at h';cases h'
section
variable (P:Program) (w:World)
def ce (H:Hp)(h:Heap)(a:Addr):HO->Prop
 |.lst xs=>xs.length<=sizeLine/\∃(its:List Value)(n:Nat),aT xs its/\h.get? a=some { cls:=.type "list",data:=.seq its.toArray n }
 |.tup xs=>xs.length<=sizeLine/\∃its:List Value,aT xs its/\IsTup h a its.toArray
 |.dK aI ob=>h.get? a=some ob/\aI.length<=sizeLine/\(a == sysModules)=false/\∃vs,KV aI vs/\h.DictOf (bZ P w) a vs
 |.dT aI=>aI.length<=sizeLine/\(a == sysModules)=false/\∃xs:List (List cw×Addr×Value),
   Paired (λ(p:List cw×V) (q:List cw×Addr×Value)=>p.1=q.1/\H q.2.1=some (.tup (p.1.map kV))/\aX p.2 q.2.2) aI xs /\
   ∃o es ep,h.get? a=some o/\o.ExactDict/\o.data=.dict es ep/\es.toList=xs.map (entryOfKey (tupleKind (bZ P w)))/\(xs.map (·.1)).Nodup
 |.set S n=>h.SetOf (intKind P w) a S n
 |.ins C dx fs=>H dx=some (.own a)/\fs.length<=1000/\dx≠a/\h.get? a=some (PySem.W.instObj C dx) /\
   ∃mA,h.Ns1 dx mA/\(∀f,oE (fs.lookup f) (mA f))/\PySem.Within mA (fs.map (·.1))
 |.own _=>∃o,h.get? a=some o
 |.xd fs=>∃mA,h.Ns1 a mA/\∀f,oE (fs.lookup f) (mA f)
 |.rng lo hi=>∃t u v,h.get? a=some { cls:=.type "range",data:=.fields #[.int lo t,.int hi u,.int 1 v] }
 |.frz o u=>h.get? a=some o/\ce H h a u
 |.tbl q=>∃ps:Array Value,h.get? a=some { cls:=.none,data:=.fields ps }/\TriplesOk ps.toList/\∀pos cv,codeAmong pos ps.toList=some cv->∃(c:Addr)(oc:Obj)(u:HO)(vs:Array Value)(t:Tok),cv=.ref c/\H c=some (.frz oc u)/\oc.data=.fields vs/\vs[1]? = some (.str q t)
 |.met f x=>h.get? a=some (PySem.W.methodObj (.ref f) (.ref x))
 |.ext φ=>φ h/\(∃o,h.get? a=some o)/\∀h1 h2:Heap,φ h1->(∀o,h1.get? a=some o->h2.get? a=some o)->φ h2
def kR (H:Hp)(h:Heap):Prop:=∀a o,H a=some o->ce P w H h a o
end
section
variable {P:Program}{w:World}{H H':Hp}{h h':Heap}{a:Addr}{o:HO}
theorem ce.lt (x:ce P w H h a o):a<h.objs.size:=by
 cases o with
 |lst xs=>obtain⟨_,_,_,_,e⟩:=x;exact vX e
 |tup xs=>obtain⟨_,_,_,p⟩:=x;exact p.lt
 |dK aI ob=>exact vX (And.left x)
 |dT aI=>obtain⟨_,_,_,_,o,_,_,e,_⟩:=x;exact vX e
 |set S n=>obtain⟨o,_,_,_,e,_⟩:=x;exact vX e
 |ins C dx fs=>obtain⟨_,_,_,e,_⟩:=x;exact vX e
 |own y=>obtain⟨_,e⟩:=x;exact vX e
 |xd fs=>obtain⟨_,⟨_,_,_,e,_⟩,_⟩:=x;exact vX e
 |rng lo hi=>obtain⟨_,_,_,e⟩:=x;exact vX e
 |frz ob u=>obtain⟨e,_⟩:=x;exact vX e
 |tbl q=>obtain⟨_,e,_⟩:=x;exact vX e
 |met f y=>exact vX (show h.get? a=some _ from x)
 |ext φ=>obtain⟨_,⟨_,e⟩,_⟩:=x;exact vX e
theorem Paired.mapP {α β:Type}{F G:α->β->Prop}:∀ {l₁:List α}{l₂:List β},Paired F l₁ l₂->(∀a b,F a b->G a b)->Paired G l₁ l₂
 |_,_,.nil,_=>.nil
 |_,_,.cons r t,f=>.cons (f _ _ r) (Paired.mapP t f)
theorem ce.stay (x:ce P w H h a o)(k:∀b u,(b=a∨H b=some (.own a))->h.get? b=some u->h'.get? b=some u)
  (ho:∀b,H b=some (.own a)->H' b=some (.own a)) (ht:∀b xs,H b=some (.tup xs)->H' b=some (.tup xs)) (hf:∀b o u,H b=some (.frz o u)->H' b=some (.frz o u)):ce P w H' h' a o:=by
 induction o with
 |lst xs=>obtain⟨z,its,n,r,e⟩:=x;exact⟨z,its,n,r,k _ _ (.inl rfl) e⟩
 |tup xs=>obtain⟨z,its,r,ob,e,c⟩:=x;exact⟨z,its,r,ob,k _ _ (.inl rfl) e,c⟩
 |dK aI Vu=>obtain⟨g,z,y,vs,r,ob,es,ep,e,c⟩:=x;exact⟨k _ _ (.inl rfl) g,z,y,vs,r,ob,es,ep,k _ _ (.inl rfl) e,c⟩
 |dT aI=>
  obtain⟨z,y,xs,r,ob,es,ep,e,c⟩:=x;exact⟨z,y,xs,Paired.mapP r λp q z=>⟨z.1,ht _ _ z.2.1,z.2.2⟩,ob,es,ep,k _ _ (.inl rfl) e,c⟩
 |set S n=>obtain⟨ob,es,ep,t,e,c⟩:=x;exact⟨ob,es,ep,t,k _ _ (.inl rfl) e,c⟩
 |ins C dx fs=>
  obtain⟨d,z,ne,e,mA,⟨od,es,ep,e2,c⟩,r⟩:=x;exact⟨ho _ d,z,ne,k _ _ (.inl rfl) e,mA,⟨od,es,ep,k _ _ (.inr d) e2,c⟩,r⟩
 |own y=>obtain⟨ob,e⟩:=x;exact⟨ob,k _ _ (.inl rfl) e⟩
 |xd fs=>obtain⟨mA,⟨od,es,ep,e,c⟩,r⟩:=x;exact⟨mA,⟨od,es,ep,k _ _ (.inl rfl) e,c⟩,r⟩
 |rng lo hi=>obtain⟨t,u,v,e⟩:=x;exact⟨t,u,v,k _ _ (.inl rfl) e⟩
 |frz ob u ih=>obtain⟨e,q⟩:=x;exact⟨k _ _ (.inl rfl) e,ih q⟩
 |tbl q=>obtain⟨ps,e,t,c⟩:=x;exact⟨ps,k a _ (.inl rfl) e,t,λpos cv z=>let ⟨d,oc,u,vs,tk,z1,z2,z3⟩:=c pos cv z;⟨d,oc,u,vs,tk,z1,hf _ _ _ z2,z3⟩⟩
 |met f y=>
  have e:h.get? a=some (PySem.W.methodObj (.ref f) (.ref y)):=x;show h'.get? a=some (PySem.W.methodObj (.ref f) (.ref y));exact k a _ (.inl rfl) e
 |ext φ=>obtain⟨p,⟨o,e⟩,st⟩:=x;exact⟨st _ _ p λo q=>k _ _ (.inl rfl) q,⟨o,k _ _ (.inl rfl) e⟩,st⟩
theorem kR.lt (x:kR P w H h)(e:H a=some o):a<h.objs.size:=(x a o e).lt
theorem kR.fresh (x:kR P w H h)(e:h.objs.size<=a):H a=none:=by
 cases q:H a with
 |none=>rfl
 |some u=>exact absurd (vQ (x.lt q) e) (Nat.lt_irrefl _)
theorem kR.kept (x:kR P w H h)(k:∀b u,h.get? b=some u->h'.get? b=some u):kR P w H h':=λa o e=>
 (x a o e).stay (λb u _ q=>k b u q) (λ_ q=>q) (λ_ _ q=>q) λ_ _ _ q=>q
theorem kR.laid (x:kR P w H h)(k:∀b u,h.get? b=some u->h'.get? b=some u)(hp:h.objs.size<=a)(new:ce P w (upd H a o) h' a o):kR P w (upd H a o) h':=λb u e=>by
 have hn:=x.fresh hp;by_cases hb:b=a
 ·subst hb;rw[aE]at e;cases e;exact new
 ·rw[aH hb]at e;exact(x b u e).stay (λc v _ q=>k c v q) (λc q=>by rw[aH (aV q hn)];exact q) (λc xs q=>by rw[aH (aV q hn)];exact q) λc o xs q=>by rw[aH (aV q hn)];exact q
end
def Rd (H:Hp)(a:Addr)(u:HO):Prop:=H a=some u∨∃o,H a=some (.frz o u)
theorem Rd.of (h:H a=some u):Rd H a u:=.inl h
theorem Rd.ok (r:Rd H a u)(x:kR P w H h):ce P w H h a u:=by
 rcases r with r|⟨o,r⟩
 ·exact x a u r
 ·obtain⟨_,q⟩:=x a _ r;exact q
def OP:Option HO->Prop
 |some (.lst _)=>True
 |some (.dK _ _)=>True
 |some (.dT _)=>True
 |some (.set _ _)=>True
 |some (.ins _ _ _)=>True
 |some (.ext _)=>True
 |_=>False
section
variable {P:Program}{w:World}{H:Hp}{h h':Heap}{x e:Addr}{o':HO}
theorem kR.write (ok:kR P w H h)(mu:OP (H x))(he:e=x∨H e=some (.own x))(k:∀b u,b≠e->h.get? b=some u->h'.get? b=some u)(O5:∃u,h'.get? e=some u)
  (new:ce P w (upd H x o') h' x o'):kR P w (upd H x o') h':=λb u q=>by
 have Qz:∀c y,H c=some (.own y)->c≠x:=λc y r z=>by subst z;rw[r]at mu;exact mu
 have Tt:∀c xs,H c=some (.tup xs)->c≠x:=λc xs r z=>by subst z;rw[r]at mu;exact mu
 by_cases hb:b=x
 ·subst hb;rw[aE]at q;cases q;exact new
 ·rw[aH hb]at q;by_cases hbe:b=e
  ·have q':H b=some (.own x):=by
    rcases he with z|z
    ·exact absurd (hbe.trans z) hb
    ·rw[hbe];exact z
   rw[q]at q';cases q';obtain⟨v,hv⟩:=O5;exact⟨v,by rw[hbe];exact hv⟩
  ·refine(ok b u q).stay (λc v hc r=>k c v ?_ r) (λc r=>by rw[aH (Qz c b r)];exact r) (λc xs r=>by rw[aH (Tt c xs r)];exact r) λc o xs r=>by rw[aH (λz=>by subst z;rw[r]at mu;exact mu)];exact r
   rcases hc with rfl|hc
   ·exact hbe
   ·rintro rfl;rcases he with z|z
    ·exact Qz c b hc z
    ·rw[hc]at z;cases z;exact hb rfl
end
structure Un (fs ex:List Addr)(H H':Hp)(h h':Heap):Prop where
 keep:∀b o,h.get? b=some o->H b=none->b∉fs->b∉ex->h'.get? b=some o
 slot:∀b o,h.get? b=some o->H b=none->b∈fs->b∉ex->∃sl,h'.get? b=some { o with slots:=sl }
 free:∀b o,h.get? b=some o->H b=none->b∉ex->H' b=none
 there:∀b o,h.get? b=some o->b∉ex->∃o',h'.get? b=some o'
 tups:∀b xs,H b=some (.tup xs)->H' b=some (.tup xs)
 frzs:∀b o u,H b=some (.frz o u)->H' b=some (.frz o u)
 tbls:∀b q,H b=some (.tbl q)->H' b=some (.tbl q)
section
variable {fs Xx ex Zp:List Addr}{H H1 H2:Hp}{h h1 h2 h':Heap}{a x e:Addr}{o:HO}
theorem Un.any (u:Un fs ex H H1 h h1)(q:h.get? b=some ob)(n:H b=none)(hx:b∉ex):∃sl,h1.get? b=some { ob with slots:=sl }:=by
 by_cases hb:b∈fs
 ·exact u.slot b ob q n hb hx
 ·exact⟨ob.slots,u.keep b ob q n hb hx⟩
theorem Un.trans (a:Un fs ex H H1 h h1)(b:Un fs ex H1 H2 h1 h2):Un fs ex H H2 h h2 where
 keep:=λc ob q n hc hx=>b.keep c ob (a.keep c ob q n hc hx) (a.free c ob q n hx) hc hx
 slot:=λc ob q n hc hx=>by
  obtain⟨sl,e1⟩:=a.slot c ob q n hc hx;obtain⟨Tu,e2⟩:=b.slot c _ e1 (a.free c ob q n hx) hc hx;exact⟨Tu,e2⟩
 free:=λc ob q n hx=>by
  obtain⟨o',e1⟩:=a.there c ob q hx;exact b.free c o' e1 (a.free c ob q n hx) hx
 there:=λc ob q hx=>by
  obtain⟨o',e1⟩:=a.there c ob q hx;exact b.there c o' e1 hx
 tups:=λc xs q=>b.tups c xs (a.tups c xs q)
 frzs:=λc ob xs q=>b.frzs c ob xs (a.frzs c ob xs q)
 tbls:=λc ps q=>b.tbls c ps (a.tbls c ps q)
theorem Un.kept (k:∀b u,h.get? b=some u->h'.get? b=some u):Un fs ex H H h h' :=
 ⟨λb ob q _ _ _=>k b ob q,λb ob q _ _ _=>⟨ob.slots,k b ob q⟩,λ_ _ _ n _=>n,λb ob q _=>⟨ob,k b ob q⟩,λ_ _ q=>q,λ_ _ _ q=>q,λ_ _ q=>q⟩
theorem Un.refl:Un fs ex H H h h:=Un.kept λ_ _ q=>q
theorem Un.laid (k:∀b u,h.get? b=some u->h'.get? b=some u)(hp:h.objs.size<=a)(hn:H a=none):Un fs ex H (upd H a o) h h' where
 keep:=λb u q _ _ _=>k b u q
 slot:=λb u q _ _ _=>⟨u.slots,k b u q⟩
 free:=λb u q n _=>by rw[aH (vS (vQ (vX q) hp))];exact n
 there:=λb u q _=>⟨u,k b u q⟩
 tups:=λb xs q=>by rw[aH (aV q hn)];exact q
 frzs:=λb u xs q=>by rw[aH (aV q hn)];exact q
 tbls:=λb ps q=>by rw[aH (aV q hn)];exact q
theorem Un.write (mu:OP (H x))(he:e=x∨H e=some (.own x))(k:∀b u,b≠e->h.get? b=some u->h'.get? b=some u)(O5:∃u,h'.get? e=some u):Un fs ex H (upd H x o) h h':=by
 have hx:∀b,H b=none->b≠x:=λb n z=>by subst z;rw[n]at mu;exact mu
 have hb:∀b,H b=none->b≠e:=λb n z=>by
  subst z;rcases he with r|r
  ·exact hx b n r
  ·rw[n]at r;cases r
 have hm:∀b u,H b=some u->¬OP (some u)->b≠x:=λb u q nm z=>by subst z;rw[q]at mu;exact nm mu
 refine⟨λb u q n _ _=>k b u (hb b n) q,λb u q n _ _=>⟨u.slots,k b u (hb b n) q⟩,λb u q n _=>by rw[aH (hx b n)];exact n,λb u q _=>?_,
  λb xs q=>by rw[aH (hm b _ q λz=>z)];exact q,λb u xs q=>by rw[aH (hm b _ q λz=>z)];exact q,λb ps q=>by rw[aH (hm b _ q λz=>z)];exact q⟩
 by_cases hbe:b=e
 ·subst hbe;exact O5
 ·exact⟨u,k b u hbe q⟩
end
noncomputable def R5 (h:Heap)(H:Hp):List Addr:=(List.range h.objs.size).filter λa=>(H a).isSome
def wT (h:Heap)(H:Hp):Heap:=PySem.W.hideAll h (R5 h H)
theorem C4 (h:Heap)(H:Hp):(wT h H).objs.size=h.objs.size:=PySem.W.hideAll_size _ _
theorem p7 (e:h.get? b=some o)(n:H b=none):(wT h H).get? b=some o :=
 PySem.W.hideAll_get _ e λhm=>by
  have q:(H b).isSome=true:=(vN hm).2;rw[n]at q;simp at q
theorem Hr (e:(wT h H).get? b=some o):h.get? b=some o/\H b=none:=by
 have e':h.get? b=some o:=PySem.W.of_hideAll (R5 h H) e;refine⟨e',?_⟩;cases q:H b with
 |none=>rfl
 |some x=>
  have hm:b∈R5 h H:=List.mem_filter.mpr ⟨List.mem_range.mpr (vX e'),by simp[q]⟩;have z:(wT h H).get? b=none:=PySem.W.hideAll_none (R5 h H) hm;rw[z]at e;cases e
noncomputable def Hs (g h:Heap)(L:Addr):List (Addr×Obj):=(List.range h.objs.size).filterMap λa=>if a=L∨(g.get? a).isSome=true then none else (h.get? a).map λo=>(a,o)
def aC (g h:Heap)(L d:Addr):List (Addr×Obj):=(Hs g h L).filter λp=>decide (p.1≠d)
structure Mod (K:Frag)(mg:Str->Option Value)(base:Heap):Prop where
 kin:K.In base
 glob:base.Ns mainGlobals mg
 blt:∃mb,base.Ns builtinsNs mb/\∀x:Str,x ≠ "__name__"->mb x=bootBuiltins x
 nolimit:base.NoLimit
 bmain:∃bm ob,mg "__builtins__" = some (.ref bm)/\bm≠builtinsNs/\base.get? bm=some ob/\ob.cls=.type "module"/\ob.dict=some builtinsNs/\ob.data=.plain
structure Cx where
 prog:Program
 w:World
 K:Frag
 mg:Str->Option Value
 base:Heap
 A:Around
 N:List Str
 s₀:Shared
 H₀:Hp
 env:Env
 outer:List Env
 stack:List Env
 ex:List Addr
 fn:Str->Bool
 calm:Bool
 pn:List (Addr×Obj)
 xe:Value->Shared->Prop
noncomputable def Ec (l:List Env):List Addr:=l.filterMap (·.frame)
abbrev Cx.fs (X:Cx):List Addr:=Ec X.outer
def En (sc:Scope)(x:Str):Prop:=sc.names.lookup x=some .local∨sc.names.lookup x=some .cell∨sc.names.lookup x=some .free
def Ha (sc:Scope)(x:Str):Prop:=sc.names.lookup x=some .local∨sc.names.lookup x=some .cell
def Ss (env:Env)(h:Heap)(m:Str->Option Value)(x:Str)(u:Value):Prop :=
 (env.kindOf x=some .local/\m x=some u)∨((env.kindOf x=some .cell∨env.kindOf x=some .free)/\∃c,env.cells.lookup x=some c/\h.IsCell c (some u))
abbrev wq {α:Type}(X:Cx):Sem α->(α->Shared->Prop)->(Value->Shared->Prop)->Shared->Prop:=wpAny (model X.prog X.w) X.A
structure Cx.Ok (X:Cx):Prop where
 mod:Mod X.K X.mg X.base
 kind:X.env.scope.kind=.function
 glob:X.env.globals=mainGlobals
 blt:X.env.builtins=builtinsNs
 above:X.s₀.heap.objs.size<=X.env.locals
 inj:∀x y c,X.env.cells.lookup x=some c->X.env.cells.lookup y=some c->x=y
 has:∀x,(X.env.kindOf x=some .cell∨X.env.kindOf x=some .free)->∃c,X.env.cells.lookup x=some c
 cab:∀x c,X.fn x=true->X.env.cells.lookup x=some c->X.s₀.heap.objs.size<=c
 hd:X.calm=true->X.A.handled=none
 frames:X.A.frames=some X.stack
 stk:X.stack=X.outer∨(X.stack=X.env::X.outer/\X.env.frame=some X.env.locals)
 exf:∀b∈X.ex,b≠X.env.locals/\∀x c,X.env.cells.lookup x=some c->c≠b
 bs:∀b o,X.base.get? b=some o->X.s₀.heap.get? b=some o/\X.H₀ b=none
 bsz:X.base.objs.size<=X.s₀.heap.objs.size
 noex:∀b o,X.base.get? b=some o->b∉X.ex
 exfs:∀b∈X.ex,b∉X.fs
 funs:X.s₀.heap.FunFrames X.base X.outer
 frf:∀b∈X.fs,X.H₀ b=none
structure Inv (X:Cx)(ae:List (Addr×Obj))(σ:List (Option V))(H:Hp)(s:Shared):Prop where
 ok:X.Ok
 os:s.os=X.s₀.os
 bare:AllBare s.gens
 base:Un X.fs X.ex X.H₀ H X.s₀.heap s.heap
 loc:∃m,s.heap.Ns X.env.locals m/\∀(i:Nat)(x:Str)(v:V),X.N[i]? = some x->σ[i]? = some (some v)->En X.env.scope x->∃u,aX v u/\Ss X.env s.heap m x u
 cell:∀x c,X.env.cells.lookup x=some c->∃v,s.heap.IsCell c v
 free:H X.env.locals=none
 freeC:∀x c,X.env.cells.lookup x=some c->H c=none
 pin:∀p∈X.pn++ae,s.heap.get? p.1=some p.2/\H p.1=none/\p.1≠X.env.locals/\p.1∉X.fs/\∀v,p.2.data≠.cell v
 hok:kR X.prog X.w H s.heap
 len:σ.length=X.N.length
section
variable {X:Cx}{ae:List (Addr×Obj)}{σ:List (Option V)}{H H':Hp}{s:Shared}{h':Heap}
theorem Cx.Ok.nofr (ok:X.Ok)(e:X.base.get? b=some o):b∉X.fs:=λhb=>by
 have:=(ok.funs.mem hb).1;rw[e]at this;cases this
theorem Inv.bs (I:Inv X ae σ H s):∀b o,X.base.get? b=some o->s.heap.get? b=some o/\H b=none:=λb o e=>
 ⟨I.base.keep b o (I.ok.bs b o e).1 (I.ok.bs b o e).2 (I.ok.nofr e) (I.ok.noex b o e),I.base.free b o (I.ok.bs b o e).1 (I.ok.bs b o e).2 (I.ok.noex b o e)⟩
theorem Inv.bk (I:Inv X ae σ H s):∀b o,X.base.get? b=some o->s.heap.get? b=some o:=λb o e=>(I.bs b o e).1
theorem Inv.mod (I:Inv X ae σ H s):Mod X.K X.mg X.base:=I.ok.mod
theorem Inv.kIn (I:Inv X ae σ H s):X.K.In s.heap:=I.ok.mod.kin.keeps I.bk
theorem Inv.nolimit (I:Inv X ae σ H s):s.heap.NoLimit:=I.ok.mod.nolimit.keeps I.bk
theorem Inv.fr (I:Inv X ae σ H s):∃m,Fr X.base X.env.locals s.heap m :=
 let ⟨m,hn,_⟩:=I.loc
 ⟨m,hn,I.bk,vR I.ok.bsz I.ok.above⟩
theorem Inv.lt (I:Inv X ae σ H s):X.env.locals<s.heap.objs.size:=let ⟨_,hn,_⟩:=I.loc;hn.lt
theorem Inv.sz (I:Inv X ae σ H s):X.s₀.heap.objs.size<=s.heap.objs.size:=vR I.ok.above (Nat.le_of_lt I.lt)
theorem Inv.nofs (I:Inv X ae σ H s)(h:s.heap.objs.size<=a):a∉X.fs:=λhb=>by
 obtain⟨_,o,ho,_⟩:=I.ok.funs.mem hb;exact absurd (vQ (vX ho) (vR I.sz h)) (Nat.lt_irrefl _)
theorem Inv.cne (I:Inv X ae σ H s):∀x c,X.env.cells.lookup x=some c->c≠X.env.locals:=λx c e z=>by
 obtain⟨v,o,ho,hd⟩:=I.cell x c e;obtain⟨m,⟨o',es,ep,oR,AN,_⟩,_⟩:=I.loc;rw[z,oR]at ho;cases ho;rw[AN]at hd;cases hd
theorem Inv.funs (I:Inv X ae σ H s):s.heap.FunFrames X.base X.outer:=by
 have all:∀(l:List Env),(∀b∈Ec l,b∈X.fs)->X.s₀.heap.FunFrames X.base l->s.heap.FunFrames X.base l:=by
  intro l;induction l with
  |nil=>intro _ _;trivial
  |cons env r ih=>
   intro hs hl;obtain⟨hk,⟨L,o,hf,hn,ho,hd⟩,hr⟩:=hl;have hL:L∈X.fs:=hs L (by unfold Ec;rw[List.filterMap_cons,hf];exact mX);obtain⟨sl,e⟩:=I.base.slot L o ho (I.ok.frf L hL) hL λz=>I.ok.exfs L z hL;exact⟨hk,⟨L,_,hf,hn,e,hd⟩,ih (λb hb=>hs b (by unfold Ec;rw[List.filterMap_cons,hf];exact mZ _ hb)) hr⟩
 exact all X.outer (λ_ hb=>hb) I.ok.funs
theorem Inv.stack (I:Inv X ae σ H s):s.heap.FunFrames X.base X.stack:=by
 rcases I.ok.stk with e|⟨e,hf⟩
 ·rw[e];exact I.funs
 ·rw[e];obtain⟨m,hn,_⟩:=I.loc;refine .cons (by rw[I.ok.kind];decide) hf hn ?_ I.funs;exact Heap.get?_none_of_le (vR I.ok.bsz I.ok.above)
theorem Inv.stkSub (I:Inv X ae σ H s):∀b∈Ec X.stack,b∈X.env.locals::X.fs:=λb hb=>by
 rcases I.ok.stk with e|⟨e,hf⟩
 ·rw[e]at hb;exact mZ _ hb
 ·rw[e]at hb;unfold Ec at hb;rw[List.filterMap_cons,hf]at hb;exact hb
theorem Inv.stkFree (I:Inv X ae σ H s):∀b∈Ec X.stack,H b=none:=λb hb=>by
 rcases vP (I.stkSub b hb)with e|hb
 ·rw[e];exact I.free
 ·obtain⟨_,o,ho,_⟩:=I.ok.funs.mem hb;exact I.base.free b o ho (I.ok.frf b hb) λz=>I.ok.exfs b z hb
theorem Inv.step {g':Array GenState}{t':Nat}{d':Drawn}{ch:List Addr}(I:Inv X ae σ H s)
  (oS:∀b∈ch,(b∈X.ex∨X.s₀.heap.objs.size<=b)/\b≠X.env.locals/\(∀x c,X.env.cells.lookup x=some c->c≠b)/\∀p∈X.pn++ae,p.1≠b)
  (keep:∀b o,b≠X.env.locals->b∉X.fs->b∉ch->s.heap.get? b=some o->H b=none->h'.get? b=some o)
  (slot:∀b o,b≠X.env.locals->b∈X.fs->b∉ch->s.heap.get? b=some o->H b=none->∃sl,h'.get? b=some { o with slots:=sl }) (free:∀b o,b∉ch->s.heap.get? b=some o->H b=none->H' b=none)
  (there:∀b o,b∉ch->s.heap.get? b=some o->∃o',h'.get? b=some o')
  (tups:∀b xs,H b=some (.tup xs)->H' b=some (.tup xs)) (frzs:∀b o u,H b=some (.frz o u)->H' b=some (.frz o u)) (tbls:∀b q,H b=some (.tbl q)->H' b=some (.tbl q))
  (ns:∀m,s.heap.Ns X.env.locals m->h'.Ns X.env.locals m) (hok:kR X.prog X.w H' h') (hg:AllBare g'):
  Inv X ae σ H' { s with heap:=h',gens:=g',drawn:=d',toks:=t' }:=by
 have Vv:∀b o,X.s₀.heap.get? b=some o->b≠X.env.locals:=λb o e=>vS (vQ (vX e) I.ok.above);have O6:∀b o,X.s₀.heap.get? b=some o->b∉X.ex->b∉ch:=λb o e hx hb=>by
  rcases (oS b hb).1 with z|z
  ·exact hx z
  ·exact absurd (vQ (vX e) z) (Nat.lt_irrefl _)
 have Ll:∀x c,X.env.cells.lookup x=some c->∀v,s.heap.IsCell c v->h'.IsCell c v:=λx c e v ⟨o,ho,hd⟩=>by
  have Q0:c∉ch:=λz=>(oS c z).2.2.1 x c e rfl;by_cases hc:c∈X.fs
  ·obtain⟨sl,q⟩:=slot c o (I.cne x c e) hc Q0 ho (I.freeC x c e);exact⟨_,q,hd⟩
  ·exact⟨o,keep c o (I.cne x c e) hc Q0 ho (I.freeC x c e),hd⟩
 refine⟨I.ok,I.os,hg,⟨λb o e n hb hx=>?_,λb o e n hb hx=>?_,λb o e n hx=>?_,λb o e hx=>?_,λb xs e=>tups b xs (I.base.tups b xs e),λb o xs e=>frzs b o xs (I.base.frzs b o xs e),λb ps e=>?_⟩,?_,λx c e=>?_,?_,λx c e=>?_,λp hp=>?_,hok,I.len⟩
 ·exact keep b o (Vv b o e) hb (O6 b o e hx) (I.base.keep b o e n hb hx) (I.base.free b o e n hx)
 ·obtain⟨sl,e1⟩:=I.base.slot b o e n hb hx;obtain⟨Tu,e2⟩:=slot b _ (Vv b o e) hb (O6 b o e hx) e1 (I.base.free b o e n hx);exact⟨Tu,e2⟩
 ·obtain⟨o',e1⟩:=I.base.there b o e hx;exact free b o' (O6 b o e hx) e1 (I.base.free b o e n hx)
 ·obtain⟨o',e1⟩:=I.base.there b o e hx;exact there b o' (O6 b o e hx) e1
 ·exact tbls b _ (I.base.tbls b ps e)
 ·obtain⟨m,hn,hl⟩:=I.loc;refine⟨m,ns m hn,λi x v e1 e2 e3=>?_⟩;obtain⟨u,r,l⟩:=hl i x v e1 e2 e3;refine⟨u,r,?_⟩;rcases l with l|⟨k,c,e,z⟩
  ·exact .inl l
  ·exact .inr ⟨k,c,e,Ll x c e _ z⟩
 ·obtain⟨v,z⟩:=I.cell x c e;exact⟨v,Ll x c e v z⟩
 ·obtain⟨m,⟨o,_,_,ho,_⟩,_⟩:=I.loc;exact free _ o (λz=>(oS _ z).2.1 rfl) ho I.free
 ·obtain⟨v,o,ho,hd⟩:=I.cell x c e;exact free c o (λz=>(oS c z).2.2.1 x c e rfl) ho (I.freeC x c e)
 ·obtain⟨e,n,ne,nf,d⟩:=I.pin p hp;have Q0:p.1∉ch:=λz=>(oS p.1 z).2.2.2 p hp rfl;exact⟨keep p.1 p.2 ne nf Q0 e n,free p.1 p.2 Q0 e n,ne,nf,d⟩
theorem Inv.un {t':Nat}(I:Inv X ae σ H s)(u:Un X.fs [] H H' s.heap h')(hok:kR X.prog X.w H' h'):Inv X ae σ H' { s with heap:=h',toks:=t' }:=by
 obtain⟨m,⟨o,es,ep,ho,r⟩,_⟩:=id I.loc;obtain⟨sl,hL⟩:=u.any ho I.free (by simp);exact I.step (g':=s.gens) (d':=s.drawn) (ch:=[]) (λ_ z=>nomatch z) (λb o _ hb _ e n=>u.keep b o e n hb (by simp)) (λb o _ hb _ e n=>u.slot b o e n hb (by simp)) (λb o _ e n=>u.free b o e n (by simp)) (λb o _ e=>u.there b o e (by simp)) u.tups u.frzs u.tbls (λm' hm=>by
  obtain⟨o',Ej,O7,oR,r'⟩:=hm;rw[ho]at oR;cases oR;exact⟨_,Ej,O7,hL,r'⟩) hok I.bare
theorem Inv.call {g':Array GenState}{t':Nat}{d':Drawn}{ch:List Addr}(I:Inv X ae σ H s)(u:Un (Ec X.stack) ch H H' s.heap h')(hok:kR X.prog X.w H' h')(hg:AllBare g')
  (oS:∀b∈ch,(b∈X.ex∨X.s₀.heap.objs.size<=b)/\b≠X.env.locals/\(∀x c,X.env.cells.lookup x=some c->c≠b)/\∀p∈X.pn++ae,p.1≠b):
  Inv X ae σ H' { s with heap:=h',gens:=g',drawn:=d',toks:=t' }:=by
 obtain⟨m,⟨o,es,ep,ho,r⟩,_⟩:=id I.loc;obtain⟨sl,hL⟩:=u.any ho I.free λz=>(oS _ z).2.1 rfl;exact I.step (ch:=ch) oS (λb o hL hb hc e n=>u.keep b o e n (λz=>(vP (I.stkSub b z)).elim hL hb) hc) (λb o _ _ hc e n=>u.any e n hc) (λb o hc e n=>u.free b o e n hc) (λb o hc e=>u.there b o e hc) u.tups u.frzs u.tbls (λm' hm=>by
  obtain⟨o',Ej,O7,oR,r'⟩:=hm;rw[ho]at oR;cases oR;exact⟨_,Ej,O7,hL,r'⟩) hok hg
theorem Inv.turned {t':Nat}{it:Addr}(I:Inv X ae σ H s)(k:∀b o,b≠it->s.heap.get? b=some o->h'.get? b=some o)(hn:H it=none)(hL:it≠X.env.locals)
  (h1:it∈X.ex∨X.s₀.heap.objs.size<=it) (h2:∀x c,X.env.cells.lookup x=some c->c≠it) (h3:∀p∈X.pn++ae,p.1≠it):Inv X ae σ H { s with heap:=h',toks:=t' }:=by
 have Lm:∀b u,H b=some u->b≠it:=λb u e z=>by rw[z,hn]at e;cases e
 refine I.step (g':=s.gens) (d':=s.drawn) (ch:=[it]) (λb hb=>?_) (λb o _ _ hc e _=>k b o (λz=>hc (by simp[z])) e) (λb o _ _ hc e _=>⟨o.slots,k b o (λz=>hc (by simp[z])) e⟩) (λ_ _ _ _ n=>n)
  (λb o hc e=>⟨o,k b o (λz=>hc (by simp[z])) e⟩) (λ_ _ e=>e) (λ_ _ _ e=>e) (λ_ _ e=>e) (λm hm=>?_) (λb u e=>?_) I.bare
 ·have e:b=it:=by simpa using hb
  subst e;exact⟨h1,hL,h2,h3⟩
 ·obtain⟨o,es,ep,ho,r⟩:=hm;exact⟨o,es,ep,k _ o (Ne.symm hL) ho,r⟩
 ·refine(I.hok b u e).stay (λc v hc q=>k c v ?_ q) (λ_ q=>q) (λ_ _ q=>q) λ_ _ _ q=>q;rcases hc with z|z
  ·rw[z];exact Lm b u e
  ·exact Lm c _ z
theorem Inv.tok (I:Inv X ae σ H s)(t:Nat):Inv X ae σ H { s with toks:=t }:=I.un (h':=s.heap) (t':=t) Un.refl I.hok
theorem Inv.kept (I:Inv X ae σ H s)(k:∀b u,s.heap.get? b=some u->h'.get? b=some u):Inv X ae σ H { s with heap:=h',toks:=t' }:=I.un (Un.kept k) (I.hok.kept k)
theorem Inv.laid (I:Inv X ae σ H s)(k:∀b u,s.heap.get? b=some u->h'.get? b=some u)(hp:s.heap.objs.size<=a)(new:ce X.prog X.w (upd H a o) h' a o):
  Inv X ae σ (upd H a o) { s with heap:=h',toks:=t' }:=I.un (Un.laid k hp (I.hok.fresh hp)) (I.hok.laid k hp new)
theorem Inv.write (I:Inv X ae σ H s)(mu:OP (H x))(he:e=x∨H e=some (.own x))(k:∀b u,b≠e->s.heap.get? b=some u->h'.get? b=some u)(O5:∃u,h'.get? e=some u)
  (new:ce X.prog X.w (upd H x o) h' x o):Inv X ae σ (upd H x o) { s with heap:=h',toks:=t' }:=I.un (Un.write mu he k O5) (I.hok.write mu he k O5 new)
theorem Inv.pins_of (I:Inv X ae σ H s)(h:∀p∈GI,s.heap.get? p.1=some p.2/\H p.1=none/\p.1≠X.env.locals/\p.1∉X.fs/\∀v,p.2.data≠.cell v):Inv X GI σ H s :=
 ⟨I.ok,I.os,I.bare,I.base,I.loc,I.cell,I.free,I.freeC,λp hp=>(List.mem_append.mp hp).elim (λz=>I.pin p (List.mem_append_left _ z)) (h p),I.hok,I.len⟩
theorem wU {N:List Str}(hN:N.Nodup){i j:Nat}{x:Str}(a:N[i]? = some x)(b:N[j]? = some x):i=j:=by
 obtain⟨h1,e1⟩:=vV a;obtain⟨h2,e2⟩:=vV b;exact(List.getElem_inj hN).mp (e1.trans e2.symm)
theorem sC {M:Model}{A:Around}{E:Value->Shared->Prop}{i:Nat}{x:Str}{v:V}{u:Value}{Q:Unit->Shared->Prop}(I:Inv X ae σ H s)(hN:X.N.Nodup)(hi:X.N[i]? = some x)(hx:Ha X.env.scope x)(r:aX v u)
  (h:∀s',Inv X ae (σ.set i (some v)) H s'->(∃a,Heap.SameBut a s.heap s'.heap/\(a=X.env.locals∨X.env.cells.lookup x=some a))->Q () s') (hf:X.fn x=true∨X.env.scope.names.lookup x=some .local:=by first|exact .inl rfl|exact .inr rfl|assumption):wpAny M A (storeName X.env x u) Q E s:=by
 obtain⟨m,hn,hl⟩:=id I.loc;have Tv:(X.env.scope.kind == .class || (X.env.scope.kind == .module && X.env.locals != X.env.globals))=false:=by rw[I.ok.kind];rfl
 have DK:i<σ.length:=by rw[I.len];exact(vV hi).1
 have cne:=I.cne;have Cs:∀ {a:Addr}{h':Heap},(∃o,s.heap.get? a=some o/\H a=none)->Heap.SameBut a s.heap h'->kR X.prog X.w H h':=λ{a h'} ha hs b ob e=>by
  obtain⟨_,_,Ln⟩:=ha;refine(I.hok b ob e).stay (λc w' hc q=>(hs.2 c ?_).trans q) (λ_ q=>q) (λ_ _ q=>q) λ_ _ _ q=>q;rintro rfl;rcases hc with rfl|hc
  ·rw[Ln]at e;cases e
  ·rw[Ln]at hc;cases hc
 rcases hx with hk|hk
 ·refine wpAny_storeName_local hk hn (λh' Tw hs=>?_) Tv;obtain⟨oL,_,_,JF,_⟩:=id hn;refine h _ ⟨I.ok,I.os,I.bare,⟨λb o e n hb hx=>?_,λb o e n hb hx=>?_,I.base.free,λb o e hx=>?_,I.base.tups,I.base.frzs,I.base.tbls⟩,⟨_,Tw,λj y v' e1 e2 e3=>?_⟩,λy c e=>?_,I.free,I.freeC,λp hp=>?_,Cs ⟨oL,JF,I.free⟩ hs,by simpa using I.len⟩ ⟨_,hs,.inl rfl⟩
  ·exact(hs.2 b (vS (vQ (vX e) I.ok.above))).trans (I.base.keep b o e n hb hx)
  ·obtain⟨sl,e1⟩:=I.base.slot b o e n hb hx;exact⟨sl,(hs.2 b (vS (vQ (vX e) I.ok.above))).trans e1⟩
  ·obtain⟨o',e1⟩:=I.base.there b o e hx;exact⟨o',(hs.2 b (vS (vQ (vX e) I.ok.above))).trans e1⟩
  ·by_cases hj:j=i
   ·subst hj;rw[hi]at e1;cases e1;rw[List.getElem?_set_self DK]at e2;cases e2
    exact⟨u,r,.inl ⟨hk,by simp⟩⟩
   ·rw[vB (Ne.symm hj)]at e2;obtain⟨u',r',q⟩:=hl j y v' e1 e2 e3;refine⟨u',r',?_⟩;rcases q with⟨k,e⟩|⟨k,c,e,z⟩
    ·refine .inl ⟨k,?_⟩;have:y≠x:=λe=>hj (wU hN e1 (e ▸ hi));simp[this,e]
    ·exact .inr ⟨k,c,e,z.sameBut hs (cne y c e)⟩
  ·obtain⟨w',z⟩:=I.cell y c e;exact⟨w',z.sameBut hs (cne y c e)⟩
  ·obtain⟨e,n,ne,nf,d⟩:=I.pin p hp;exact⟨(hs.2 p.1 ne).trans e,n,ne,nf,d⟩
 ·have Tz:X.fn x=true:=by
   rcases hf with z|z
   ·exact z
   ·rw[z]at hk;cases hk
  obtain⟨c,hc⟩:=I.ok.has x (.inl hk);obtain⟨w',z⟩:=I.cell x c hc;refine wpAny_storeName_cell I.ok.kind hk hc z (λh' JG hs=>?_);obtain⟨oc,JH,T1⟩:=id z;refine h { s with heap:=h' } ⟨I.ok,I.os,I.bare,⟨λb o e n hb hx=>?_,λb o e n hb hx=>?_,I.base.free,λb o e hx=>?_,I.base.tups,I.base.frzs,I.base.tbls⟩,⟨m,hn.sameBut hs (Ne.symm (cne x c hc)),λj y v' e1 e2 e3=>?_⟩,λy c' e=>?_,I.free,I.freeC,λp hp=>?_,Cs ⟨oc,JH,I.freeC x c hc⟩ hs,by simpa using I.len⟩ ⟨c,hs,.inr hc⟩
  ·exact(hs.2 b (vS (vQ (vX e) (I.ok.cab x c Tz hc)))).trans (I.base.keep b o e n hb hx)
  ·obtain⟨sl,e1⟩:=I.base.slot b o e n hb hx;exact⟨sl,(hs.2 b (vS (vQ (vX e) (I.ok.cab x c Tz hc)))).trans e1⟩
  ·obtain⟨o',e1⟩:=I.base.there b o e hx;exact⟨o',(hs.2 b (vS (vQ (vX e) (I.ok.cab x c Tz hc)))).trans e1⟩
  ·by_cases hj:j=i
   ·subst hj;rw[hi]at e1;cases e1;rw[List.getElem?_set_self DK]at e2;cases e2
    exact⟨u,r,.inr ⟨.inl hk,c,hc,JG⟩⟩
   ·rw[vB (Ne.symm hj)]at e2;obtain⟨u',r',q⟩:=hl j y v' e1 e2 e3;refine⟨u',r',?_⟩;rcases q with q|⟨k,c',e,z'⟩
    ·exact .inl q
    ·refine .inr ⟨k,c',e,z'.sameBut hs ?_⟩;rintro rfl;exact hj (wU hN e1 (I.ok.inj _ _ _ e hc ▸ hi))
  ·by_cases hcc:c'=c
   ·subst hcc;exact⟨_,JG⟩
   ·obtain⟨w2,z2⟩:=I.cell y c' e;exact⟨w2,z2.sameBut hs hcc⟩
  ·obtain⟨e,n,ne,nf,d⟩:=I.pin p hp;refine⟨(hs.2 p.1 ?_).trans e,n,ne,nf,d⟩;intro q;rw[q,JH]at e;have q':oc=p.2:=vK e;exact d w' (by rw[←q'];exact T1)
theorem wV {M:Model}{A:Around}{E:Value->Shared->Prop}{i:Nat}{x:Str}{v:V}{u:Value}{Q:Unit->Shared->Prop}(I:Inv X ae σ H s)(hN:X.N.Nodup)(hi:X.N[i]? = some x)(hx:Ha X.env.scope x)(r:aX v u)
  (h:∀s',Inv X ae (σ.set i (some v)) H s'->Q () s') (hf:X.fn x=true∨X.env.scope.names.lookup x=some .local:=by first|exact .inl rfl|exact .inr rfl|assumption):wpAny M A (storeName X.env x u) Q E s :=
 sC I hN hi hx r (λs' I' _=>h s' I') hf
theorem Inv.call' (I:Inv X ae σ H s)(ho:s'.os=s.os)(u:Un (Ec X.stack) ch H H' s.heap s'.heap)(hok:kR X.prog X.w H' s'.heap)(hg:AllBare s'.gens)
  (oS:∀b∈ch,(b∈X.ex∨X.s₀.heap.objs.size<=b)/\b≠X.env.locals/\(∀x c,X.env.cells.lookup x=some c->c≠b)/\∀p∈X.pn++ae,p.1≠b):Inv X ae σ H' s':=by
 obtain⟨h',g',d',t',o'⟩:=s';have e:o'=s.os:=ho;subst e;exact I.call (g':=g') (t':=t') (d':=d') u hok hg oS
end
abbrev XK:=Value->Option Addr->Hp->Prop
abbrev St:=List (Option V)
abbrev VK:=V->Hp->Prop
abbrev TE:=St->Hp->VK->Prop
abbrev TT:=St->Hp->(Bool->Hp->Prop)->Prop
abbrev TA:=St->Hp->(List V->Hp->Prop)->Prop
structure Ends where
 nx:St->Hp->Prop
 rt:VK
 bk:St->Hp->Prop:=λ_ _=>False
 ct:St->Hp->Prop:=λ_ _=>False
abbrev TS:=Ends->St->Hp->Prop
def EP (X:Cx)(ae:List (Addr×Obj))(σ:St)(Q:VK)(u:Value)(s':Shared):Prop:=∃v H',Inv X ae σ H' s'/\aX v u/\Q v H'
def TP (X:Cx)(ae:List (Addr×Obj))(σ:St)(Q:Bool->Hp->Prop)(b:Bool)(s':Shared):Prop:=∃H',Inv X ae σ H' s'/\Q b H'
def AP (X:Cx)(ae:List (Addr×Obj))(σ:St)(Q:List V->Hp->Prop)(us:List Value)(s':Shared):Prop:=∃vs H',Inv X ae σ H' s'/\aT vs us/\Q vs H'
def SP (X:Cx)(ae:List (Addr×Obj))(D:Ends)(f:Flow)(s':Shared):Prop :=
 match f with
 |.next=>∃σ' H',Inv X ae σ' H' s'/\D.nx σ' H'
 |.brk=>∃σ' H',Inv X ae σ' H' s'/\D.bk σ' H'
 |.cont=>∃σ' H',Inv X ae σ' H' s'/\D.ct σ' H'
 |.ret u=>∃v σ' H',Inv X ae σ' H' s'/\aX v u/\D.rt v H'
def PE (X:Cx)(e:Expr)(t:TE):Prop :=
 ∀(ae:List (Addr×Obj))(s:Shared)(σ:St)(H:Hp)(Q:VK),Inv X ae σ H s->t σ H Q->wq X (eval e X.env) (EP X ae σ Q) X.xe s
def PT (X:Cx)(e:Expr)(t:TT):Prop :=
 ∀(ae:List (Addr×Obj))(s:Shared)(σ:St)(H:Hp)(Q:Bool->Hp->Prop),Inv X ae σ H s->t σ H Q->wq X (isTrue e X.env (eval e X.env)) (TP X ae σ Q) X.xe s
def PW (X:Cx)(e:Expr)(t:TT):Prop :=
 ∀(rR:Sem Value)(ae:List (Addr×Obj))(s:Shared)(σ:St)(H:Hp)(Q:Bool->Hp->Prop),Inv X ae σ H s->t σ H Q->wq X (isTrue e X.env rR) (TP X ae σ Q) X.xe s
theorem PW.pt (h:PW X e t):PT X e t:=h _
def PA (X:Cx)(es:List Expr)(t:TA):Prop :=
 ∀(pos:Pos)(ae:List (Addr×Obj))(s:Shared)(σ:St)(H:Hp)(Q:List V->Hp->Prop),Inv X ae σ H s->t σ H Q->wq X (spliced (backTo pos (starEach es X.env))) (AP X ae σ Q) X.xe s
def PS (X:Cx)(st:Stmt)(t:TS):Prop :=
 ∀(ae:List (Addr×Obj))(s:Shared)(σ:St)(H:Hp)(D:Ends),Inv X ae σ H s->t D σ H->wq X (exec st X.env) (SP X ae D) X.xe s
def uy (X:Cx)(st:List Stmt)(t:TS):Prop :=
 ∀(ae:List (Addr×Obj))(s:Shared)(σ:St)(H:Hp)(D:Ends),Inv X ae σ H s->t D σ H->wq X (execs st X.env) (SP X ae D) X.xe s
theorem cx {α:Type}{t:Sem α}{Q Q':α->Shared->Prop}{M:Model}{A:Around}{E:Value->Shared->Prop}{s:Shared}(h:wpAny M A t Q E s)(hQ:∀a s,Q a s->Q' a s):wpAny M A t Q' E s:=wpAny_mono h hQ λ_ _ x=>x
section
variable {X:Cx}
theorem Zi {a b:Expr}{ta tb:TE}(ha:PE X a ta)(hb:PE X b tb){ae:List (Addr×Obj)}{s:Shared}{σ:St}{H:Hp}{R:V->V->Hp->Prop}(I:Inv X ae σ H s)(h:ta σ H λx H1=>tb σ H1 λy H2=>R x y H2)
  {α:Type}{Q:α->Shared->Prop}{f:Value->Value->Sem α}
  (hf:∀v u s2 x y H2,Inv X ae σ H2 s2->aX x v->aX y u->R x y H2->wq X (f v u) Q X.xe s2):
  wq X (eval a X.env) (λv s₁=>wq X (eval b X.env) (λu s₂=>wq X (f v u) Q X.xe s₂) X.xe s₁) X.xe s:=by
 refine cx (ha ae s σ H _ I h) λv s1 ⟨x,H1,I1,r1,q1⟩=>?_;refine cx (hb ae s1 σ H1 _ I1 q1) λu s2 ⟨y,H2,I2,r2,q2⟩=>?_;exact hf v u s2 x y H2 I2 r1 r2 q2
def Eo (i:Nat):TE:=λσ H Q=>∃v,σ[i]? = some (some v)/\Q v H
def tC (v:V):TE:=λ_ H Q=>Q v H
theorem lw (hN:X.N[i]? = some x)(hv:En X.env.scope x)(hd:(x == ("__debug__" : Str))=false:=by decide)(jv:(x == ("__classdict__" : Str))=false:=by decide):PE X (.Name x pos) (Eo i):=by
 intro ae s σ H Q I h;obtain⟨v,e,h⟩:=h;obtain⟨m,hn,hl⟩:=I.loc;obtain⟨u,r,l⟩:=hl i x v hN e hv;have kX:EP X ae σ Q u s:=⟨v,H,I,r,h⟩;rcases l with⟨hk,hm⟩|⟨hk,c,hc,Lo⟩
 ·exact wpAny_Name (wpAny_loadName_local I.ok.kind hk hn hm kX) hd
 ·rcases hk with hk|hk
  ·exact wpAny_Name (wpAny_loadName_cell I.ok.kind hk hc Lo kX) hd
  ·exact wpAny_Name (wpAny_loadName_free I.ok.kind hk hc Lo kX jv) hd
theorem LA {i j pos}:PE X (.Constant (.int i) j pos) (tC (.int i)):=λ_ _ _ H _ I h=>wpAny_Constant_int ⟨.int i,H,I.tok _,⟨_,rfl⟩,h⟩
theorem OQ {b j pos}:PE X (.Constant (.bool b) j pos) (tC (.bl b)):=λ_ _ _ H _ I h=>Constant_bool ⟨.bl b,H,I,rfl,h⟩
theorem LB {j pos}:PE X (.Constant .none j pos) (tC .non):=λ_ _ _ H _ I h=>Constant_none ⟨.non,H,I,rfl,h⟩
theorem LC {x j pos}:PE X (.Constant (.str x) j pos) (tC (.str x)):=λ_ _ _ H _ I h=>Calls.Constant_str ⟨.str x,H,I.tok _,⟨_,rfl⟩,h⟩
def Gl (X:Cx)(x:Str):Prop:=X.env.kindOf x=some .globalImplicit
theorem uz {E:Value->Shared->Prop}{ae:List (Addr×Obj)}{s:Shared}{σ:St}{H:Hp}{x:Str}{u:Value}{pos:Pos}{Q:Value->Shared->Prop}(I:Inv X ae σ H s)(hg:Gl X x)(hm:X.mg x=some u)(h:Q u s)
  (hd:(x == ("__debug__" : Str))=false:=by decide):wq X (eval (.Name x pos) X.env) Q E s :=
 Calls.Name_function_global I.ok.kind hg (Calls.loadGlobal_global (by rw[I.ok.glob];exact I.mod.glob.keeps I.bk) hm h) hd
theorem lx {E:Value->Shared->Prop}{ae:List (Addr×Obj)}{s:Shared}{σ:St}{H:Hp}{x:Str}{u:Value}{pos:Pos}{Q:Value->Shared->Prop}(I:Inv X ae σ H s)(hg:Gl X x)(hm:X.mg x=none)(hv:bootBuiltins x=some u)(h:Q u s)
  (hn:x ≠ "__name__":=by decide) (hd:(x == ("__debug__" : Str))=false:=by decide):wq X (eval (.Name x pos) X.env) Q E s:=by
 obtain⟨mb,h1,h2⟩:=I.mod.blt;exact Calls.Name_function_global I.ok.kind hg (Calls.loadGlobal_builtin (by rw[I.ok.glob];exact I.mod.glob.keeps I.bk) hm (by rw[I.ok.blt];exact h1.keeps I.bk) ((h2 x hn).trans hv) h) hd
theorem AT (hg:Gl X x)(hm:X.mg x=some u)(r:aX v u)(hd:(x == ("__debug__" : Str))=false:=by decide):PE X (.Name x pos) (tC v) :=
 λ_ _ _ H _ I h=>uz I hg hm ⟨v,H,I,r,h⟩ hd
def W3 (ta tb:TE)(k:Int->Int->Hp->Prop):St->Hp->Prop:=λσ H=>ta σ H λx H1=>tb σ H1 λy H2=>∃i j,x=.int i/\y=.int j/\k i j H2
variable {a b:Expr}{ta tb:TE}{pos:Pos}
def PC (X:Cx)(op:CmpOp)(a b:Expr)(t:TE):Prop :=
 ∀(ae:List (Addr×Obj))(s:Shared)(σ:St)(H:Hp)(Q:VK),Inv X ae σ H s->t σ H Q ->
  wq X (eval a X.env) (λv s₁=>wq X (eval b X.env) (λu s₂=>wq X (compareOp op v u) (EP X ae σ Q) X.xe s₂) X.xe s₁) X.xe s
theorem jQ (b:Expr){op:CmpOp}(h:op≠.In)(h2:op≠.NotIn):behindInMarks op b=false:=by
 have e1:(op == CmpOp.In)=false:=by cases op<;>first|rfl|exact absurd rfl h
 have e2:(op == CmpOp.NotIn)=false:=by cases op<;>first|rfl|exact absurd rfl h2
 cases b<;>simp[behindInMarks,e1,e2]
def OR (p:Int->Int->Bool)(ta tb:TE):TE:=λσ H Q=>W3 ta tb (λi j H2=>Q (.bl (p i j)) H2) σ H
abbrev LD:TE->TE->TE:=OR λi j=>decide (i<j)
abbrev W4:TE->TE->TE:=OR λi j=>decide (j<i)
def tB (t:TE):TT:=λσ H Q=>t σ H λx H1=>∃c,x=.bl c/\Q c H1
theorem LF (h:PC X op a b t)(h1:behindInMarks op b=false:=by first|exact jQ _ (by decide) (by decide)|rfl):PE X (.Compare a [op] [b] pos) t:=λae s σ H Q I hw=>wpAny_Compare1 (h ae s σ H Q I hw) h1
theorem Su {op:CmpOp}{t:TE}(h:PC X op a b t)(h1:behindInMarks op b=false:=by first|exact jQ _ (by decide) (by decide)|rfl):PT X (.Compare a [op] [b] pos) (tB t):=by
 intro ae s σ H Q I hw;refine wpAny_isTrue_Compare1 (cx (h ae s σ H _ I hw) λv s1 h1=>cx h1 λu s2 h2=>cx h2 λc s3 ⟨x,H1,I1,r1,q1⟩=>?_) h1;obtain⟨d,rfl,q⟩:=q1;cases r1
 exact wpAny_truthy_bool ⟨H1,I1,q⟩
theorem LG {e:Expr}{t:TE}(h:PE X e t)(he:∀rR,isTrue e X.env rR=(do let v ←rR;standAt e.pos;holding [v] (truthy v)):=by intro _;rfl):PT X e (tB t):=by
 intro ae s σ H Q I hw;refine isTrue_plain (cx (h ae s σ H _ I hw) λv s1 ⟨x,H1,I1,r1,q1⟩=>?_) (he _);obtain⟨d,rfl,q⟩:=q1;cases r1
 exact wpAny_truthy_bool ⟨H1,I1,q⟩
variable {tA RN:TT}{aC:List Expr}
def OS (t u:TT):TT:=λσ H Q=>t σ H λc H1=>if c=true then u σ H1 Q else Q false H1
def UJ (t u:TT):TT:=λσ H Q=>t σ H λc H1=>if c=true then Q true H1 else u σ H1 Q
def OT (t:TT):TT:=λσ H Q=>t σ H λc H1=>Q (!c) H1
theorem Ht (ha:PT X a tA):PW X (.BoolOp .And [a] pos) tA:=by
 intro wh ae s σ H Q I h;refine isTrue_and (cx (ha ae s σ H Q I h) λc s1 e=>?_);cases c with
 |true=>exact isTrue_and_nil e
 |false=>exact e
theorem LH (ha:PT X a tA):PW X (.BoolOp .Or [a] pos) tA:=by
 intro wh ae s σ H Q I h;refine isTrue_or (cx (ha ae s σ H Q I h) λc s1 e=>?_);cases c with
 |false=>exact isTrue_or_nil e
 |true=>exact e
theorem LI (ha:PT X a tA)(hb:PW X (.BoolOp .And (b::aC) pos) RN):PW X (.BoolOp .And (a::b::aC) pos) (OS tA RN):=by
 intro wh ae s σ H Q I h;refine isTrue_and (cx (ha ae s σ H _ I h) λc s1 ⟨H1,I1,q1⟩=>?_);cases c with
 |true=>exact hb wh ae s1 σ H1 Q I1 q1
 |false=>exact⟨H1,I1,q1⟩
theorem OU (ha:PT X a tA)(hb:PW X (.BoolOp .Or (b::aC) pos) RN):PW X (.BoolOp .Or (a::b::aC) pos) (UJ tA RN):=by
 intro wh ae s σ H Q I h;refine isTrue_or (cx (ha ae s σ H _ I h) λc s1 ⟨H1,I1,q1⟩=>?_);cases c with
 |true=>exact⟨H1,I1,q1⟩
 |false=>exact hb wh ae s1 σ H1 Q I1 q1
theorem LJ (ha:PT X a tA):PT X (.UnaryOp .Not a pos) (OT tA):=by
 intro ae s σ H Q I h;exact isTrue_not (ha ae s σ H (λc H1=>Q (!c) H1) I h)
def OV (ta tb:TE):TE:=λσ H Q=>ta σ H λx H1=>∃c,x=.bl c/\if c=true then tb σ H1 Q else Q (.bl false) H1
def Sv (ta tb:TE):TE:=λσ H Q=>ta σ H λx H1=>∃c,x=.bl c/\if c=true then Q (.bl true) H1 else tb σ H1 Q
theorem LK {op}(h:PE X a t):PE X (.BoolOp op [a] pos) t:=λae s σ H Q I hw=>BoolOp_one (h ae s σ H Q I hw)
theorem LL (ha:PE X a ta)(hb:PE X (.BoolOp .And (b::aC) pos) tb):PE X (.BoolOp .And (a::b::aC) pos) (OV ta tb):=by
 intro ae s σ H Q I h;refine BoolOp_and (cx (ha ae s σ H _ I h) λv s1 ⟨x,H1,I1,r1,q1⟩=>?_);obtain⟨c,rfl,q1⟩:=q1;cases r1
 refine wpAny_truthy_bool ?_;cases c with
 |true=>exact hb ae s1 σ H1 Q I1 q1
 |false=>exact⟨.bl false,H1,I1,rfl,q1⟩
theorem OW (ha:PE X a ta)(hb:PE X (.BoolOp .Or (b::aC) pos) tb):PE X (.BoolOp .Or (a::b::aC) pos) (Sv ta tb):=by
 intro ae s σ H Q I h;refine BoolOp_or (cx (ha ae s σ H _ I h) λv s1 ⟨x,H1,I1,r1,q1⟩=>?_);obtain⟨c,rfl,q1⟩:=q1;cases r1
 refine wpAny_truthy_bool ?_;cases c with
 |false=>exact hb ae s1 σ H1 Q I1 q1
 |true=>exact⟨.bl true,H1,I1,rfl,q1⟩
end
def iA (K:Frag)(H:Hp)(a:Addr)(xs:List V):Prop :=
 Rd H a (.lst xs) ∨
  ∃(o:Obj)(its:Array Value)(n:Nat),K.lookup a=some o/\o.cls=.type "list"/\o.dict=none/\o.data=.seq its n/\its.size<=sizeLine/\aT xs its.toList
def iZ (K:Frag)(H:Hp)(a:Addr)(xs:List V):Prop :=
 Rd H a (.tup xs) ∨
  ∃(o:Obj)(its:Array Value)(n:Nat),K.lookup a=some o/\o.cls=.type "tuple"/\o.data=.seq its n/\its.size<=sizeLine/\aT xs its.toList
noncomputable def Sw:Value->Option V
 |.none=>some .non
 |.bool b=>some (.bl b)
 |.int i _=>some (.int i)
 |.str x _=>some (.str x)
 |.bytes b _=>some (.byt b)
 |.float b _=>some (.flt b)
 |.ref a=>some (.ref a)
 |.type n=>some (.ty n)
 |_=>none
theorem aX.abs (r:aX x u):Sw u=some x:=by
 cases x with
 |non=>cases r;rfl
 |bl _=>cases r;rfl
 |int _=>obtain⟨t,rfl⟩:=r;rfl
 |str _=>obtain⟨t,rfl⟩:=r;rfl
 |byt _=>obtain⟨t,rfl⟩:=r;rfl
 |flt _=>obtain⟨t,rfl⟩:=r;rfl
 |ref _=>cases r;rfl
 |ty _=>cases r;rfl
theorem aX.inj (r:aX x u)(q:aX y u):x=y:=vK (r.abs.symm.trans q.abs)
theorem aT.inj:∀ {xs ys:List V}{us:List Value},aT xs us->aT ys us->xs=ys
 |_,_,_,.nil,.nil=>rfl
 |_,_,_,.cons r t,.cons r' t'=>by rw[r.inj r',aT.inj t t']
section
variable {X:Cx}{ae:List (Addr×Obj)}{σ:St}{H:Hp}{s:Shared}{a:Addr}{xs ys:List V}
theorem iA.of {K:Frag}(h:H a=some (.lst xs)):iA K H a xs:=.inl (.inl h)
theorem iZ.of {K:Frag}(h:H a=some (.tup xs)):iZ K H a xs:=.inl (.inl h)
theorem Inv.list (I:Inv X ae σ H s)(h:iA X.K H a xs):∃its:List Value,aT xs its/\PlainL s.heap a its.toArray/\xs.length<=sizeLine:=by
 rcases h with h|⟨o,its,n,hk,hc,hd,hs,hz,r⟩
 ·obtain⟨z,its,n,r,e⟩:=h.ok I.hok;exact⟨its,r,⟨_,n,e,rfl,rfl,rfl⟩,z⟩
 ·refine⟨its.toList,r,⟨o,n,I.kIn a o hk,hc,hd,by simpa using hs⟩,?_⟩;have e:=r.length;simp only[vG]at e;omega
theorem Inv.tuple (I:Inv X ae σ H s)(h:iZ X.K H a xs):∃its:List Value,aT xs its/\IsTup s.heap a its.toArray/\xs.length<=sizeLine:=by
 rcases h with h|⟨o,its,n,hk,hc,hs,hz,r⟩
 ·obtain⟨z,its,r,p⟩:=h.ok I.hok;exact⟨its,r,p,z⟩
 ·refine⟨its.toList,r,⟨o,I.kIn a o hk,hc,n,by simpa using hs⟩,?_⟩;have e:=r.length;simp only[vG]at e;omega
theorem Inv.list_inj (I:Inv X ae σ H s)(h:iA X.K H a xs)(h':iA X.K H a ys):xs=ys:=by
 obtain⟨its,r,⟨o,n,e,_,_,d⟩,_⟩:=I.list h;obtain⟨its',r',⟨o',n',e',_,_,d'⟩,_⟩:=I.list h';rw[e]at e';cases e';rw[d]at d';injection d' with d1 _;have:its=its':=by simpa using congrArg Array.toList d1
 subst this;exact r.inj r'
theorem Inv.tuple_inj (I:Inv X ae σ H s)(h:iZ X.K H a xs)(h':iZ X.K H a ys):xs=ys:=by
 obtain⟨its,r,⟨o,e,_,n,d⟩,_⟩:=I.tuple h;obtain⟨its',r',⟨o',e',_,n',d'⟩,_⟩:=I.tuple h';rw[e]at e';cases e';rw[d]at d';injection d' with d1 _;have:its=its':=by simpa using congrArg Array.toList d1
 subst this;exact r.inj r'
end
noncomputable abbrev Cx.wish (X:Cx)(E:Value->Shared->Prop):Cx:={ X with xe:=E }
noncomputable abbrev Cx.nox (X:Cx):Cx:=X.wish λ_ _=>False
theorem Cx.Ok.wish {X:Cx}(ok:X.Ok)(E:Value->Shared->Prop):(X.wish E).Ok :=
 ⟨ok.mod,ok.kind,ok.glob,ok.blt,ok.above,ok.inj,ok.has,ok.cab,ok.hd,ok.frames,ok.stk,ok.exf,ok.bs,ok.bsz,ok.noex,ok.exfs,ok.funs,ok.frf⟩
theorem Cx.Ok.unwish {X:Cx}{E:Value->Shared->Prop}(ok:(X.wish E).Ok):X.Ok :=
 ⟨ok.mod,ok.kind,ok.glob,ok.blt,ok.above,ok.inj,ok.has,ok.cab,ok.hd,ok.frames,ok.stk,ok.exf,ok.bs,ok.bsz,ok.noex,ok.exfs,ok.funs,ok.frf⟩
section
variable {X:Cx}{ae:List (Addr×Obj)}{σ:St}{H:Hp}{s:Shared}{E:Value->Shared->Prop}
theorem Inv.wish (I:Inv X ae σ H s)(E:Value->Shared->Prop):Inv (X.wish E) ae σ H s:=⟨I.ok.wish E,I.os,I.bare,I.base,I.loc,I.cell,I.free,I.freeC,I.pin,I.hok,I.len⟩
theorem Inv.unwish (I:Inv (X.wish E) ae σ H s):Inv X ae σ H s:=⟨I.ok.unwish,I.os,I.bare,I.base,I.loc,I.cell,I.free,I.freeC,I.pin,I.hok,I.len⟩
theorem SP.unwish (h:SP (X.wish E) ae D f s'):SP X ae D f s':=by
 cases f with
 |next=>obtain⟨σ',H',I,q⟩:=h;exact⟨σ',H',I.unwish,q⟩
 |brk=>obtain⟨σ',H',I,q⟩:=h;exact⟨σ',H',I.unwish,q⟩
 |cont=>obtain⟨σ',H',I,q⟩:=h;exact⟨σ',H',I.unwish,q⟩
 |ret u=>obtain⟨v,σ',H',I,r,q⟩:=h;exact⟨v,σ',H',I.unwish,r,q⟩
theorem PE.nox (h:PE X.nox e t):PE X e t:=λae s σ H Q I hw=>
 wpAny_mono (h ae s σ H Q (I.wish _) hw) (λ_ _ ⟨v,H',I',r,q⟩=>⟨v,H',I'.unwish,r,q⟩) λ_ _ z=>False.elim z
theorem PT.nox (h:PT X.nox e t):PT X e t:=λae s σ H Q I hw=>
 wpAny_mono (h ae s σ H Q (I.wish _) hw) (λ_ _ ⟨H',I',q⟩=>⟨H',I'.unwish,q⟩) λ_ _ z=>False.elim z
theorem uy.nox {st:List Stmt}{t:TS}(h:uy X.nox st t):uy X st t:=λae s σ H D I hw=>
 wpAny_mono (h ae s σ H D (I.wish _) hw) (λ_ _ q=>q.unwish) λ_ _ z=>False.elim z
end
section
variable {X:Cx}{st:Stmt}{aC:List Stmt}{t u:TS}{e:Expr}{te:TE}{pos:Pos}
def Kf:TS:=λD σ H=>D.nx σ H
def OX (t u:TS):TS:=λD σ H=>t { D with nx:=u D } σ H
theorem Hu:uy X [] Kf:=λ_ _ σ H _ I h=>wpAny_execs_nil ⟨σ,H,I,h⟩
theorem Ep (h1:PS X st t)(h2:uy X aC u):uy X (st::aC) (OX t u):=by
 intro ae s σ H D I h;refine wpAny_execs_cons (cx (h1 ae s σ H { D with nx:=u D } I h) λf s1 q=>?_);cases f with
 |next=>
  obtain⟨σ',H',I',q⟩:=q;exact h2 ae s1 σ' H' D I' q
 |ret v=>exact q
 |brk=>exact q
 |cont=>exact q
theorem Hv (h1:PS X st t):uy X [st] t:=by
 intro ae s σ H D I h;refine wpAny_execs_cons (cx (h1 ae s σ H D I h) λf s1 q=>?_);cases f with
 |next=>exact wpAny_execs_nil q
 |ret v=>exact q
 |brk=>exact q
 |cont=>exact q
def OY:TS:=λD σ H=>D.ct σ H
theorem wW:PS X (.Continue pos) OY:=λ_ _ σ H _ I h=>wpAny_Continue ⟨σ,H,I,h⟩
theorem Inv.quiet (I:Inv X ae σ H s):interactive X.env=false:=by simp[interactive,I.ok.kind]
def OZ (te:TE):TS:=λD σ H=>te σ H λ_ H1=>D.nx σ H1
theorem Hw (he:PE X e te)(hs:swapsWith e none pos.line X.env=pure false:=by rfl):PS X (.Expr e pos) (OZ te):=by
 intro ae s σ H D I h;exact wpAny_Expr_any (cx (he ae s σ H _ I h) λv s1 ⟨x,H1,I1,r1,q1⟩=>⟨σ,H1,I1,q1⟩) I.quiet hs
def LM (te:TE):TS:=λD σ H=>te σ H D.rt
theorem Er (he:PE X e te):PS X (.Return (some e) pos) (LM te):=by
 intro ae s σ H D I h;exact wpAny_Return_some (cx (he ae s σ H _ I h) λv s1 ⟨x,H1,I1,r1,q1⟩=>⟨x,σ,H1,I1,r1,q1⟩)
def Pa (c:TT)(t u:TS):TS:=λD σ H=>c σ H λb H1=>if b=true then t D σ H1 else u D σ H1
theorem Pb {c:Expr}{a b:List Stmt}{tc:TT}(hc:PT X c tc)(ha:uy X a t)(hb:uy X b u):PS X (.If c a b pos) (Pa tc t u):=by
 intro ae s σ H D I h;refine wpAny_If (cx (hc ae s σ H _ I h) λd s1 ⟨H1,I1,q1⟩=>?_);cases d with
 |true=>exact ha ae s1 σ H1 D I1 q1
 |false=>exact hb ae s1 σ H1 D I1 q1
end
abbrev TG:=V->St->Hp->(St->Hp->Prop)->Prop
abbrev LN:=List V->St->Hp->(St->Hp->Prop)->Prop
def PG (X:Cx)(rS:Expr)(t:TG):Prop :=
 ∀(ae:List (Addr×Obj))(s:Shared)(σ:St)(H:Hp)(v:V)(u:Value)(Q:St->Hp->Prop),Inv X ae σ H s->aX v u->t v σ H Q ->
  wq X (assign rS X.env u) (λ_ s'=>∃σ' H',Inv X ae σ' H' s'/\Q σ' H') X.xe s
def R6 (X:Cx)(ts:List Expr)(t:LN):Prop :=
 ∀(ae:List (Addr×Obj))(s:Shared)(σ:St)(H:Hp)(vs:List V)(us:List Value)(Q:St->Hp->Prop),Inv X ae σ H s->aT vs us->t vs σ H Q ->
  wq X (assignInOrder ((assignEach ts X.env).map (·.2)) us) (λ_ s'=>∃σ' H',Inv X ae σ' H' s'/\Q σ' H') X.xe s
abbrev LO:=V->V->V->Hp->(Hp->Prop)->Prop
def Pc (X:Cx)(t:LO):Prop :=
 ∀(ae:List (Addr×Obj))(s:Shared)(σ:St)(H:Hp)(o i v:V)(ov iv u:Value)(Q:Hp->Prop),Inv X ae σ H s->aX o ov->aX i iv->aX v u->t o i v H Q ->
  wq X (setItem ov iv u) (λ_ s'=>∃H',Inv X ae σ H' s'/\Q H') X.xe s
section
variable {X:Cx}{pos:Pos}
def jF (i:Nat):TG:=λv σ H Q=>Q (σ.set i (some v)) H
theorem AU (hN:X.N.Nodup)(hi:X.N[i]? = some x)(hx:Ha X.env.scope x)(hf:X.fn x=true∨X.env.scope.names.lookup x=some .local:=by first|exact .inl rfl|exact .inr rfl|assumption):PG X (.Name x pos) (jF i):=by
 intro ae s σ H v u Q I r h;exact wpAny_assign_Name (wV I hN hi hx r (λs' I'=>⟨_,H,I',h⟩) hf)
def Pd:LN:=λvs σ H Q=>vs=[]/\Q σ H
def Kg (t:TG)(u:LN):LN:=λvs σ H Q=>∃v r,vs=v::r/\t v σ H λσ' H'=>u r σ' H' Q
theorem oW:R6 X [] Pd:=by
 intro ae s σ H vs us Q I r h;obtain⟨e,h⟩:=h;subst e;cases r
 exact assignInOrder_nil ⟨σ,H,I,h⟩
theorem gd {e:Expr}{es:List Expr}{t:TG}{u:LN}(h1:PG X e t)(h2:R6 X es u)
  (hs:(assignEach (e::es) X.env).map (·.2)=assign e X.env::(assignEach es X.env).map (·.2):=by rfl):R6 X (e::es) (Kg t u):=by
 intro ae s σ H vs us Q I r h;obtain⟨v,vr,e1,h⟩:=h;subst e1;cases r with
 |cons r rr=>
  rw[hs];refine assignInOrder_cons (cx (h1 ae s σ H _ _ _ I r h) λ_ s1 ⟨σ1,H1,I1,q1⟩=>?_);exact h2 ae s1 σ1 H1 _ _ Q I1 rr q1
def LP (K:Frag)(n:Nat)(t:LN):TG:=λv σ H Q=>∃a xs,v=.ref a/\iZ K H a xs/\xs.length=n/\t xs σ H Q
theorem u5 (hc:X.calm=true)(h:R6 X es t)
  (hn:(assignEach es X.env).length=n:=by rfl) (oU:(assignEach es X.env).findIdx? (·.1)=none:=by rfl):PG X (.Tuple es k pos) (LP X.K n t):=by
 intro ae s σ H v u Q I r hw;obtain⟨a,xs,e1,hq,hl,hw⟩:=hw;subst e1;cases r
 obtain⟨its,rv,ht,hz⟩:=I.tuple hq;refine assign_Tuple_tuple (I.ok.hd hc) ht (by simp[hn,←hl,rv.length]) oU λh' hx=>?_;have I1:Inv X ae σ H { s with heap:=h' }:=I.kept (t':=s.toks) λb o e=>hx b o (vS (vX e)) e;exact h ae _ σ H xs _ Q I1 (by simpa using rv) hw
def Sx (to ti:TE)(t:LO):TG:=λv σ H Q=>to σ H λo H1=>ti σ H1 λi H2=>t o i v H2 λH3=>Q σ H3
theorem LQ {o i:Expr}{to ti:TE}{t:LO}(ho:PE X o to)(hi:PE X i ti)(hs:Pc X t)
  (ha:∀v,assign (.Subscript o i pos) X.env v=(do
   let ov ←holding [v] (eval o X.env)
   let iv ←holding [v,ov] (eval i X.env)
   standAt pos
   holding [v,ov,iv] (setItem ov iv v)
   release [v,ov,iv] []):=by intro _;rfl):PG X (.Subscript o i pos) (Sx to ti t):=by
 intro ae s σ H v u Q I r h;rw[ha];refine wX (wpAny_holding (cx (ho ae s σ H _ I h) λov s1 ⟨x,H1,I1,r1,q1⟩=>?_));refine wX (wpAny_holding (cx (hi ae s1 σ H1 _ I1 q1) λiv s2 ⟨y,H2,I2,r2,q2⟩=>?_));refine wX (wpAny_standAt (wX (wpAny_holding (cx (hs ae s2 σ H2 x y v ov iv u _ I2 r1 r2 r q2) λ_ s3 ⟨H3,I3,q3⟩=>?_))));exact wpAny_release ⟨σ,H3,I3,q3⟩
def zE (te:TE)(g:TG):TS:=λD σ H=>te σ H λx H1=>g x σ H1 D.nx
theorem LR {tg e:Expr}{te:TE}{g:TG}(he:PE X e te)(hg:PG X tg g)(hs:swapsWithSole [tg] e pos.line X.env=pure false:=by rfl)(hw:swappedStores [tg] e X.env=pure none:=by rfl)
  (h1:(assignEach [tg] X.env).map (·.2)=[assign tg X.env]:=by rfl):PS X (.Assign [tg] e pos) (zE te g):=by
 intro ae s σ H D I h;refine wpAny_Assign_stores (cx (he ae s σ H _ I h) λv s1 ⟨x,H1,I1,r1,q1⟩=>?_) hs hw;rw[h1];exact cx (hg ae s1 σ H1 x v _ I1 r1 q1) λ_ s2 q=>q
theorem u6 {i:Nat}{x:Str}{e:Expr}{te:TE}{zp:Pos}(hN:X.N.Nodup)(hi:X.N[i]? = some x)(hx:Ha X.env.scope x)(he:PE X e te)(hs:swapsWith e (some (.Name x zp)) pos.line X.env=pure false:=by rfl)(hf:X.fn x=true∨X.env.scope.names.lookup x=some .local:=by first|exact .inl rfl|exact .inr rfl|assumption):
  PS X (.Assign [.Name x zp] e pos) (zE te (jF i)):=by
 intro ae s σ H D I h;refine wpAny_Assign_Name (cx (he ae s σ H _ I h) λv s1 ⟨y,H1,I1,r1,q1⟩=>?_) hs;exact wV I1 hN hi hx r1 (λs2 I2=>⟨_,H1,I2,q1⟩) hf
end
structure It where
 go:Nat->Hp->Prop
 yld:Nat->Hp->V->Hp->Prop
 stop:Nat->Hp->Prop
def mR (X:Cx)(ae:List (Addr×Obj))(H:Hp)(b:Addr):Prop :=
 H b=none/\b≠X.env.locals/\b∉X.fs/\(b∈X.ex∨X.s₀.heap.objs.size<=b)/\(∀x c,X.env.cells.lookup x=some c->c≠b)/\∀p∈X.pn++ae,p.1≠b
theorem Inv.fpOk (I:Inv X ae σ H s)(hb:s.heap.objs.size<=b)(hn:H' b=none):mR X ae H' b:=by
 refine⟨hn,Nat.ne_of_gt (vQ I.lt hb),I.nofs hb,.inr (vR I.sz hb),λx c e z=>?_,λp hp z=>?_⟩
 ·obtain⟨v,q⟩:=I.cell x c e;exact absurd (vQ q.lt (by rw[z];exact hb)) (Nat.lt_irrefl _)
 ·exact absurd (vQ (vX (I.pin p hp).1) (by rw[z];exact hb)) (Nat.lt_irrefl _)
structure Turn (P:Program)(w:World)(K:Frag)(tg:Expr)(J:It)(fp:List Addr)(it:Addr)(tn:Nat->Heap->Prop):Prop where
 mem:it∈fp
 obj:∀i h,tn i h->∀b∈fp,∃o,h.get? b=some o/\∀v,o.data≠.cell v
 keep:∀i h h',tn i h->(∀b∈fp,∀o,h.get? b=some o->h'.get? b=some o)->tn i h'
 item:∀(X:Cx),X.prog=P->X.w=w->X.K=K->X.calm=true->∀(i:Nat)(ae:List (Addr×Obj))(s:Shared)(σ:St)(H:Hp)(E:Value->Shared->Prop),Inv X ae σ H s->(∀b∈fp,mR X ae H b)->tn i s.heap->J.go i H ->
  wpAny (model P w) X.A (pyNext (.ref it)) (λr s1=>∃u,r=some u /\
   wpAny (model P w) X.A (letOwnedTupleGo tg (.ref it) u) (λ_ s2=>∃x H',Inv X ae σ H' s2/\aX x u/\J.yld i H x H'/\tn (i+1) s2.heap/\∀b∈fp,H' b=none) E s1) E s
 done:∀(X:Cx),X.prog=P->X.w=w->X.K=K->X.calm=true->∀(i:Nat)(ae:List (Addr×Obj))(s:Shared)(σ:St)(H:Hp)(E:Value->Shared->Prop),Inv X ae σ H s->(∀b∈fp,mR X ae H b)->tn i s.heap->J.stop i H ->
  wpAny (model P w) X.A (pyNext (.ref it)) (λr s1=>r=none/\Inv X ae σ H s1) E s
 self:∀(A:Around)(i:Nat)(s:Shared)(Q:Value->Shared->Prop)(E:Value->Shared->Prop),tn i s.heap->Q (.ref it) s->wpAny (model P w) A (pyIter (.ref it)) Q E s
abbrev TI:=St->Hp->(It->Hp->Prop)->Prop
def UK (X:Cx)(ae:List (Addr×Obj))(σ:St)(tg:Expr)(R:It->Hp->Prop)(RO:Value)(s2:Shared):Prop :=
 ∃(it:Addr)(fp:List Addr)(tn:Nat->Heap->Prop)(J:It)(H':Hp),RO=.ref it/\Inv X ae σ H' s2/\Turn X.prog X.w X.K tg J fp it tn/\tn 0 s2.heap/\(∀b∈fp,mR X ae H' b)/\R J H'
def PI (X:Cx)(tg cV:Expr)(wi:TI):Prop :=
 ∀(ae:List (Addr×Obj))(s:Shared)(σ:St)(H:Hp)(R:It->Hp->Prop),Inv X ae σ H s->wi σ H R ->
  wq X (eval cV X.env) (λv s1=>wq X (pyIter v) (UK X ae σ tg R) X.xe s1) X.xe s
theorem sD (ho:s.heap.get? it=some o)(hc:o.cls=.type n)(hd:o.data=.fields vs)
    (hn:["enumerate","zip","dict_itemiterator","dict_reverseitemiterator","odict_iterator","itertools.zip_longest","itertools.pairwise"].contains n=false) (hQ:Q () s):wpAny M A (letOwnedTupleGo tg (.ref it) u) Q E s:=by
  unfold letOwnedTupleGo;cases tg<;>first
    |exact wY hQ
    | (cases u<;>first
        |exact wY hQ
        | (refine wX (wpAny_load ho ?_)
           rw[hc,hd]
           show wpAny M A (if(["enumerate","zip","dict_itemiterator","dict_reverseitemiterator","odict_iterator","itertools.zip_longest","itertools.pairwise"].contains n && vs[0]? == some (rawInt _))=true then _ else _) Q E s
           rw[if_neg (by intro h;rw[hn,Bool.false_and]at h;cases h)]
           exact wY hQ))
noncomputable def UL (K:Frag)(a:Addr):It :=
 ⟨λi H=>∃xs x,iA K H a xs/\xs[i]? = some x,λi H x H'=>H'=H/\∀xs,iA K H a xs->xs[i]? = some x,λi H=>∃xs,iA K H a xs/\xs.length<=i⟩
noncomputable def UM (K:Frag)(a:Addr):It :=
 ⟨λi H=>∃xs x,iZ K H a xs/\xs[i]? = some x,λi H x H'=>H'=H/\∀xs,iZ K H a xs->xs[i]? = some x,λi H=>∃xs,iZ K H a xs/\xs.length<=i⟩
noncomputable def Pe (lo:Int)(n:Nat):It:=⟨λi _=>i<n,λi H x H'=>H'=H/\x=.int (lo+i),λi _=>n<=i⟩
theorem C5 {P:Program}{w:World}{K:Frag}{tg:Expr}(a it:Addr):Turn P w K tg (UL K a) [it] it (λi h=>h.IsListIter it a i) where
 mem:=by simp
 obj:=λi h st b hb=>by
  have e:b=it:=by simpa using hb
  subst e;obtain⟨o,e,c,d⟩:=st;exact⟨o,e,λv z=>by rw[d]at z;cases z⟩
 keep:=λi h h' st k=>st.at λo e=>k it (by simp) o e
 item:=by
  intro X hP hw hK hc i ae s σ H E I hf st hg;subst hP hw hK;obtain⟨xs,x,hq,hx⟩:=hg;obtain⟨its,rv,p,hz⟩:=I.list hq;obtain⟨u,hu,ru⟩:=rv.get hx;obtain⟨f0,f1,f2,f3,f4,f5⟩:=hf it (by simp);refine wpAny_pyNext_list_item st p.isList (x:=u) (by simpa using hu) λh' lO sb=>?_;have I1:Inv X ae σ H { s with heap:=h' }:=I.turned (t':=s.toks) (λb o hb e=>(sb.2 b hb).trans e) f0 f1 f3 f4 f5;obtain⟨o,e,c,d⟩:=id lO;exact⟨u,rfl,sD (s:={ s with heap:=h' }) e c d (by decide) ⟨x,H,I1,ru,⟨rfl,λys hy=>by rw[I.list_inj hy hq];exact hx⟩,lO,λb hb=>(hf b hb).1⟩⟩
 done:=by
  intro X hP hw hK hc i ae s σ H E I hf st hg;subst hP hw hK;obtain⟨xs,hq,hx⟩:=hg;obtain⟨its,rv,p,hz⟩:=I.list hq;obtain⟨f0,f1,f2,f3,f4,f5⟩:=hf it (by simp);have hl:=rv.length;exact wpAny_pyNext_list_end (I.ok.hd hc) st p.isList (by simp;omega) λh' eb=>⟨rfl,I.turned (t':=s.toks) (λb o hb e=>eb b o hb e) f0 f1 f3 f4 f5⟩
 self:=λ_ _ _ _ _ st h=>wpAny_pyIter_listiter st h
theorem zF {P:Program}{w:World}{K:Frag}{tg:Expr}(a it:Addr):Turn P w K tg (UM K a) [it] it (λi h=>h.IsTupleIter it a i) where
 mem:=by simp
 obj:=λi h st b hb=>by
  have e:b=it:=by simpa using hb
  subst e;obtain⟨o,e,c,d⟩:=st;exact⟨o,e,λv z=>by rw[d]at z;cases z⟩
 keep:=λi h h' st k=>st.at λo e=>k it (by simp) o e
 item:=by
  intro X hP hw hK hc i ae s σ H E I hf st hg;subst hP hw hK;obtain⟨xs,x,hq,hx⟩:=hg;obtain⟨its,rv,p,hz⟩:=I.tuple hq;obtain⟨u,hu,ru⟩:=rv.get hx;obtain⟨f0,f1,f2,f3,f4,f5⟩:=hf it (by simp);refine wpAny_pyNext_tuple_item st (show s.heap.IsTuple a its.toArray from p) (x:=u) (by simpa using hu) λh' lO sb=>?_;have I1:Inv X ae σ H { s with heap:=h' }:=I.turned (t':=s.toks) (λb o hb e=>(sb.2 b hb).trans e) f0 f1 f3 f4 f5;obtain⟨o,e,c,d⟩:=id lO;exact⟨u,rfl,sD (s:={ s with heap:=h' }) e c d (by decide) ⟨x,H,I1,ru,⟨rfl,λys hy=>by rw[I.tuple_inj hy hq];exact hx⟩,lO,λb hb=>(hf b hb).1⟩⟩
 done:=by
  intro X hP hw hK hc i ae s σ H E I hf st hg;subst hP hw hK;obtain⟨xs,hq,hx⟩:=hg;obtain⟨its,rv,p,hz⟩:=I.tuple hq;obtain⟨f0,f1,f2,f3,f4,f5⟩:=hf it (by simp);have hl:=rv.length;exact wpAny_pyNext_tuple_end (I.ok.hd hc) st (show s.heap.IsTuple a its.toArray from p) (by simp;omega) λh' eb=>⟨rfl,I.turned (t':=s.toks) (λb o hb e=>eb b o hb e) f0 f1 f3 f4 f5⟩
 self:=λ_ _ _ _ _ st h=>wpAny_pyIter_tupleiter st h
theorem zG {P:Program}{w:World}{K:Frag}{tg:Expr}(it:Addr)(lo:Int)(n:Nat):Turn P w K tg (Pe lo n) [it] it (λi h=>IsRangeIter h it (lo+(i:Nat)*1) ((n:Int) - (i:Nat)) 1) where
 mem:=by simp
 obj:=λi h st b hb=>by
  have e:b=it:=by simpa using hb
  subst e;exact⟨_,st,λv z=>by
   have z':Data.fields _=Data.cell v:=z;cases z'⟩
 keep:=λi h h' st k=>k it (by simp) _ st
 item:=by
  intro X hP hw hK hc i ae s σ H E I hf st hg;subst hP hw hK;obtain⟨f0,f1,f2,f3,f4,f5⟩:=hf it (by simp);have W:=Walks.range (prog:=X.prog) (w:=X.w) (I.ok.hd hc) it lo 1 n;refine W.item i s _ _ hg st λv h' tk hv lO kk=>?_;obtain⟨t,rfl⟩:=hv;have I1:Inv X ae σ H { s with heap:=h',toks:=tk }:=I.turned (λb o hb e=>kk b o (by simpa using hb) e) f0 f1 f3 f4 f5;refine⟨_,rfl,sD (s:={ s with heap:=h',toks:=tk }) (n:="range_iterator") lO rfl rfl (by decide) ⟨.int (lo+i),H,I1,⟨t,?_⟩,⟨rfl,rfl⟩,lO,λb hb=>(hf b hb).1⟩⟩;rw[Int.mul_one]
 done:=by
  intro X hP hw hK hc i ae s σ H E I hf st hg;subst hP hw hK;obtain⟨f0,f1,f2,f3,f4,f5⟩:=hf it (by simp);exact wpAny_pyNext_range_end (I.ok.hd hc) st (by have:n<=i:=hg;omega) λh' eb=>⟨rfl,I.turned (t':=s.toks) (λb o hb e=>eb b o hb e) f0 f1 f3 f4 f5⟩
 self:=λ_ _ _ _ _ st h=>wpAny_pyIter_rangeiter st h
section
variable {X:Cx}{tg:Expr}
def Pf (K:Frag)(tl:TE):TI:=λσ H R=>tl σ H λx H1=>∃a,x=.ref a/\(∃xs,iA K H1 a xs)/\R (UL K a) H1
def Sy (K:Frag)(tl:TE):TI:=λσ H R=>tl σ H λx H1=>∃a,x=.ref a/\(∃xs,iZ K H1 a xs)/\R (UM K a) H1
theorem Hx {l:Expr}{tl:TE}(hl:PE X l tl):PI X tg l (Pf X.K tl):=by
 intro ae s σ H R I h;refine cx (hl ae s σ H _ I h) λv s1 ⟨x,H1,I1,r1,q1⟩=>?_;obtain⟨a,e,⟨xs,hq⟩,q⟩:=q1;subst e;cases r1
 obtain⟨its,rv,p,hz⟩:=I1.list hq;refine wpAny_pyIter_list p.isList ?_;refine⟨s1.heap.objs.size,[s1.heap.objs.size],_,_,H1,rfl,I1.kept (t':=s1.toks) λb o e=>vZ _ e,C5 a _,⟨_,vY _ rfl,rfl,rfl⟩,λb hb=>?_,q⟩;have e:b=s1.heap.objs.size:=by simpa using hb
 subst e;exact I1.fpOk (vT _) (I1.hok.fresh (vT _))
theorem LS {l:Expr}{tl:TE}(hl:PE X l tl):PI X tg l (Sy X.K tl):=by
 intro ae s σ H R I h;refine cx (hl ae s σ H _ I h) λv s1 ⟨x,H1,I1,r1,q1⟩=>?_;obtain⟨a,e,⟨xs,hq⟩,q⟩:=q1;subst e;cases r1
 obtain⟨its,rv,p,hz⟩:=I1.tuple hq;refine wpAny_pyIter_tuple (show s1.heap.IsTuple a its.toArray from p) ?_;refine⟨s1.heap.objs.size,[s1.heap.objs.size],_,_,H1,rfl,I1.kept (t':=s1.toks) λb o e=>vZ _ e,zF a _,⟨_,vY _ rfl,rfl,rfl⟩,λb hb=>?_,q⟩;have e:b=s1.heap.objs.size:=by simpa using hb
 subst e;exact I1.fpOk (vT _) (I1.hok.fresh (vT _))
theorem wZ {ae:List (Addr×Obj)}{σ:St}{H:Hp}{s:Shared}{R:It->Hp->Prop}{E:Value->Shared->Prop}{lo hi:Int}{t u v:Tok}{tk:Nat}(I:Inv X ae σ H s)(h1 : -(2 ^ 62)<=lo)(h2:lo<2 ^ 62)(h3 : -(2 ^ 62)<=hi)(h4:hi<2 ^ 62)
  (q:R (Pe lo (hi - lo).toNat) H):wq X (pyIter (.ref s.heap.objs.size)) (UK X ae σ tg R) E { s with heap:=s.heap.push { cls:=.type "range",data:=.fields #[.int lo t,.int hi u,.int 1 v] },toks:=tk }:=by
 refine wpAny_pyIter_range (IsRange.new ..) (small_one h1 h2 h3 h4) ?_;have I1:Inv X ae σ H { s with heap:=s.heap.push { cls:=.type "range",data:=.fields #[.int lo t,.int hi u,.int 1 v] },toks:=tk }:=I.kept λb o e=>vZ _ e;refine⟨(s.heap.push { cls:=.type "range",data:=.fields #[.int lo t,.int hi u,.int 1 v] }).objs.size,[(s.heap.push { cls:=.type "range",data:=.fields #[.int lo t,.int hi u,.int 1 v] }).objs.size],_,_,H,rfl,
  I1.kept (t':=tk) λb o e=>vZ _ e,zG _ lo (hi - lo).toNat,?_,λb hb=>?_,q⟩
 ·have e1:lo+((0:Nat):Int)*1=lo:=by simp
  have e2:(((hi - lo).toNat:Nat):Int) - ((0:Nat):Int)=Builtin.Range.rangeSize lo hi 1:=by rw[rangeSize_one];split<;>omega
  show IsRangeIter _ _ (lo+((0:Nat):Int)*1) ((((hi - lo).toNat:Nat):Int) - ((0:Nat):Int)) 1;rw[e1,e2];exact vY _ rfl
 ·have e:b=(s.heap.push { cls:=.type "range",data:=.fields #[.int lo t,.int hi u,.int 1 v] }).objs.size:=by simpa using hb
  subst e;exact I1.fpOk (vT _) (I1.hok.fresh (vT _))
def Pg (ta:TA):TI:=λσ H R=>ta σ H λvs H1=>∃j:Int,vs=[.int j]/\-(2 ^ 62)<=j/\j<2 ^ 62/\R (Pe 0 j.toNat) H1
def Ph (ta:TA):TI:=λσ H R=>ta σ H λvs H1=>∃i j:Int,vs=[.int i,.int j]/\(-(2 ^ 62)<=i/\i<2 ^ 62/\-(2 ^ 62)<=j/\j<2 ^ 62)/\R (Pe i (j - i).toNat) H1
theorem C6 {a:Expr}{ta:TA}{p pos:Pos}(hg:Gl X "range")(hm:X.mg "range" = none)(ha:PA X [a] ta)(hs:starEach [a] X.env=[(false,eval a X.env)]:=by rfl):PI X tg (.Call (.Name "range" p) [a] [] pos) (Pg ta):=by
 intro ae s σ H R I h;refine Call_ (lx I hg hm boot_range (PyProof.Rows.callWith_type1 (cx (ha pos ae s σ H _ I h) λus s1 ⟨vs,H1,I1,r1,q1⟩=>?_) hs rfl));obtain⟨j,e,q1,q2,q⟩:=q1;subst e;cases r1 with
 |cons r rr=>
  cases rr
  obtain⟨t,rfl⟩:=r;exact call_range_1 (wZ I1 (by omega) (by omega) q1 q2 (by simpa using q))
theorem C7 {a b:Expr}{ta:TA}{p pos:Pos}(hg:Gl X "range")(hm:X.mg "range" = none)(ha:PA X [a,b] ta)(hs:starEach [a,b] X.env=[(false,eval a X.env),(false,eval b X.env)]:=by rfl)(DM:starEach [b] X.env=[(false,eval b X.env)]:=by rfl):
  PI X tg (.Call (.Name "range" p) [a,b] [] pos) (Ph ta):=by
 intro ae s σ H R I h;refine Call_ (lx I hg hm boot_range (PyProof.Rows.callWith_type1 (cx (ha pos ae s σ H _ I h) λus s1 ⟨vs,H1,I1,r1,q1⟩=>?_) (by rw[hs,DM]) (by rw[DM];rfl)));obtain⟨i,j,e,⟨q1,q2,q3,q4⟩,q⟩:=q1;subst e;cases r1 with
 |cons r rr=>
  cases rr with
  |cons r' rr=>
   cases rr
   obtain⟨t,rfl⟩:=r;obtain⟨t',rfl⟩:=r';exact call_range_2 (wZ I1 q1 q2 q3 q4 q)
def LU (wi:TI)(g:TG)(tb:TS):TS:=λD σ H=>wi σ H λJ H1=>∃W:Nat->Nat->St->Hp->Prop,(∃m,W 0 m σ H1)/\∀i m σ H,W i m σ H ->
 (J.stop i H/\D.nx σ H)∨(J.go i H/\∃N:St->Hp->Prop,(∀σ' H',N σ' H'->∃m',m'<m/\W (i+1) m' σ' H')/\∀x H',J.yld i H x H'->g x σ H' λσ2 H2=>tb { D with nx:=N,ct:=N,bk:=D.nx } σ2 H2)
def mS (fp:List Addr)(h:Heap):List (Addr×Obj):=fp.filterMap λb=>(h.get? b).map λo=>(b,o)
theorem jw {fp:List Addr}{h:Heap}{b:Addr}{o:Obj}(hb:b∈fp)(e:h.get? b=some o):(b,o)∈mS fp h:=List.mem_filterMap.mpr ⟨b,hb,by rw[e];rfl⟩
theorem C8 (hp:p∈mS fp h):p.1∈fp/\h.get? p.1=some p.2:=by
 obtain⟨b,hb,e⟩:=List.mem_filterMap.mp hp;cases q:h.get? b with
 |none=>rw[q]at e;cases e
 |some o=>
  rw[q]at e;have e':(b,o)=p:=vK e;subst e';exact⟨hb,q⟩
theorem Inv.pinned (I:Inv X ae σ H s)(hf:∀b∈fp,mR X ae H b)(ho:∀b∈fp,∃o,s.heap.get? b=some o/\∀v,o.data≠.cell v):Inv X (ae++mS fp s.heap) σ H s :=
 I.pins_of λp hp=>(List.mem_append.mp hp).elim (λz=>I.pin p (mY _ z)) λz=>by
  obtain⟨hb,e⟩:=C8 z;obtain⟨f0,f1,f2,_⟩:=hf p.1 hb;obtain⟨o,e',d⟩:=ho p.1 hb;rw[e]at e';cases e';exact⟨e,f0,f1,f2,d⟩
theorem Inv.unpinned (I:Inv X (ae++pl) σ H s):Inv X ae σ H s:=I.pins_of λp hp=>I.pin p (mY _ (List.mem_append_left _ hp))
theorem Es {cV:Expr}{body:List Stmt}{wi:TI}{g:TG}{tb:TS}{pos:Pos}(hp:PassesOwn (model X.prog X.w) X.A X.env X.xe)(hc:X.calm=true)(hi:PI X tg cV wi)(hg:PG X tg g)(hb:uy X body tb)
  (hs:∀x,foldedSetIterable cV X.env x=pure x:=by intro _;rfl):PS X (.For tg cV body [] pos) (LU wi g tb):=by
 intro ae s σ H D I h;refine wpAny_For (cx (hi ae s σ H _ I h) λv s1 h1=>cx h1 λRO s2 h2=>?_) hs;obtain⟨it,fp,tn,J,H2,e,I2,T,JJ,f2,W,⟨m0,w0⟩,N6⟩:=h2;subst e
 -- what stays true of the iterator's objects through the loop
 have N7:∀ {H':Hp},(∀b∈fp,H' b=none)->∀b∈fp,mR X ae H' b:=λhn b hb=>⟨hn b hb,(f2 b hb).2⟩;refine codeAny_forLoop_any (λn s'=>∃i σ' H',Inv X ae σ' H' s'/\tn i s'.heap/\(∀b∈fp,H' b=none)/\W i n σ' H') ?_ m0 ⟨0,σ,H2,I2,JJ,λb hb=>(f2 b hb).1,w0⟩;rintro n s3 ⟨i,σ3,H3,I3,Vw,Vx,w3⟩;rcases N6 i n σ3 H3 w3 with⟨stop,qn⟩|⟨go,N,hN,step⟩
 ·refine wpAny_passesOwn hp (cx (T.done X rfl rfl rfl hc i ae s3 σ3 H3 X.xe I3 (N7 Vx) Vw stop) λr s4 ⟨hr,I4⟩=>?_);subst hr;exact wpAny_execs_nil ⟨σ3,H3,I4,qn⟩
 ·refine wpAny_passesOwn hp (cx (T.item X rfl rfl rfl hc i ae s3 σ3 H3 X.xe I3 (N7 Vx) Vw go) λr s4 ⟨u,hr,h4⟩=>?_);subst hr;refine wpAny_passesOwn hp (cx h4 λ_ s5 ⟨x,H5,I5,r5,y5,T2,T3⟩=>?_);have Xy:=I5.pinned (N7 T3) (T.obj _ _ T2);refine wpAny_passesOwn hp (cx (hg _ s5 σ3 H5 x u _ Xy r5 (step x H5 y5)) λ_ s6 ⟨σ6,H6,I6,q6⟩=>?_);refine wpAny_passesOwn hp (cx (hb _ s6 σ6 H6 _ I6 q6) λf s7 q7=>?_);have again:∀ {σ7:St}{H7:Hp},Inv X (ae++mS fp s5.heap) σ7 H7 s7->N σ7 H7->∃m,m<n/\∃i σ' H',Inv X ae σ' H' s7/\tn i s7.heap/\(∀b∈fp,H' b=none)/\W i m σ' H':=λ{σ7 H7} I7 n7=>by
   obtain⟨m',hm,w7⟩:=hN σ7 H7 n7;refine⟨m',hm,i+1,σ7,H7,I7.unpinned,T.keep _ _ _ T2 λb hb o e=>(I7.pin (b,o) (mY _ (mY _ (jw hb e)))).1,λb hb=>?_,w7⟩;obtain⟨o,e,d⟩:=T.obj _ _ T2 b hb;exact(I7.pin (b,o) (mY _ (mY _ (jw hb e)))).2.1
  cases f with
  |next=>obtain⟨σ7,H7,I7,n7⟩:=q7;exact again I7 n7
  |cont=>obtain⟨σ7,H7,I7,n7⟩:=q7;exact again I7 n7
  |brk=>obtain⟨σ7,H7,I7,q7⟩:=q7;exact⟨σ7,H7,I7.unpinned,q7⟩
  |ret v=>obtain⟨x7,σ7,H7,I7,r7,q7⟩:=q7;exact⟨x7,σ7,H7,I7.unpinned,r7,q7⟩
end
abbrev R2:=V->V->Hp->VK->Prop
def dr (X:Cx)(f:Value->Value->Sem Value)(r:R2):Prop :=
 ∀(ae:List (Addr×Obj))(s:Shared)(σ:St)(H:Hp)(x y:V)(v u:Value)(Q:VK),Inv X ae σ H s->aX x v->aX y u->r x y H Q ->
  wq X (f v u) (EP X ae σ Q) X.xe s
def Pj (X:Cx)(f:Value->Sem Value)(r:V->Hp->VK->Prop):Prop :=
 ∀(ae:List (Addr×Obj))(s:Shared)(σ:St)(H:Hp)(x:V)(v:Value)(Q:VK),Inv X ae σ H s->aX x v->r x H Q ->
  wq X (f v) (EP X ae σ Q) X.xe s
def bQ (X:Cx)(f:Value)(r:List V->Hp->VK->Prop):Prop :=
 ∀(ae:List (Addr×Obj))(s:Shared)(σ:St)(H:Hp)(xs:List V)(us:List Value)(Q:VK),Inv X ae σ H s->aT xs us->r xs H Q ->
  wq X (call f us) (EP X ae σ Q) X.xe s
def R7 (r:R2)(ta tb:TE):TE:=λσ H Q=>ta σ H λx H1=>tb σ H1 λy H2=>r x y H2 Q
def W5 (r:V->Hp->VK->Prop)(ta:TE):TE:=λσ H Q=>ta σ H λx H1=>r x H1 Q
def rI (C:Int->Int->Prop)(g:Int->Int->V):R2:=λx y H Q=>∃i j,x=.int i/\y=.int j/\C i j/\Q (g i j) H
def Hb (g:Int->Int->V):R2:=λx y H Q=>∃i j,x=.int i/\y=.int j/\Q (g i j) H
def rU (g:Int->V):V->Hp->VK->Prop:=λx H Q=>∃i,x=.int i/\Q (g i) H
section
variable {X:Cx}{a b c:Expr}{ta tb tc:TE}{pos:Pos}
theorem LV (ha:PE X a ta)(hb:PE X b tb){ae:List (Addr×Obj)}{s:Shared}{σ:St}{H:Hp}{R:V->V->Hp->Prop}(I:Inv X ae σ H s)
  (h:ta σ H λx H1=>tb σ H1 λy H2=>R x y H2) {Q:Value->Shared->Prop}{f:Value->Value->Sem Value}
  (hf:∀v u s2 x y H2,Inv X ae σ H2 s2->aX x v->aX y u->R x y H2->wq X (f v u) Q X.xe s2):
  wq X (eval a X.env) (λv s₁=>wq X (eval b X.env) (λu s₂=>wq X (f v u) Q X.xe s₂) X.xe s₁) X.xe s:=by
 refine cx (ha ae s σ H _ I h) λv s1 ⟨x,H1,I1,r1,q1⟩=>?_;refine cx (hb ae s1 σ H1 _ I1 q1) λu s2 ⟨y,H2,I2,r2,q2⟩=>?_;exact hf v u s2 x y H2 I2 r1 r2 q2
theorem Kh {op:Operator}{r:R2}(ho:dr X (binaryOp op) r)(ha:PE X a ta)(hb:PE X b tb):PE X (.BinOp a op b pos) (R7 r ta tb):=by
 intro ae s σ H Q I h;exact wpAny_BinOp (LV ha hb I h λv u s2 x y H2 I2 rx ry q=>ho ae s2 σ H2 x y v u Q I2 rx ry q)
theorem Pk {op:UnaryOp}{r:V->Hp->VK->Prop}(ho:Pj X (unaryOp op) r)(ha:PE X a ta):PE X (.UnaryOp op a pos) (W5 r ta):=by
 intro ae s σ H Q I h;exact UnaryOp_ (cx (ha ae s σ H _ I h) λv s1 ⟨x,H1,I1,r1,q1⟩=>ho ae s1 σ H1 x v Q I1 r1 q1)
theorem Sz {f:Value->Value->Sem Value}{C:Int->Int->Prop}{g:Int->Int->Int}
  (rule:∀(i j:Int)(t u:Tok)(s:Shared)(Q:Value->Shared->Prop)(E:Value->Shared->Prop),C i j->Q (.int (g i j) s.toks) { s with toks:=s.toks+1 }->wq X (f (.int i t) (.int j u)) Q E s):
  dr X f (rI C λi j=>.int (g i j)):=by
 intro ae s σ H x y v u Q I rx ry h;obtain⟨i,j,rfl,rfl,hc,q⟩:=h;obtain⟨t,rfl⟩:=rx;obtain⟨t',rfl⟩:=ry;exact rule i j t t' s _ _ hc ⟨.int (g i j),H,I.tok _,⟨_,rfl⟩,q⟩
theorem LW {f:Value->Value->Sem Value}{g:Int->Int->Int}
  (rule:∀(i j:Int)(t u:Tok)(s:Shared)(Q:Value->Shared->Prop)(E:Value->Shared->Prop),Q (.int (g i j) s.toks) { s with toks:=s.toks+1 }->wq X (f (.int i t) (.int j u)) Q E s):
  dr X f (Hb λi j=>.int (g i j)):=by
 intro ae s σ H x y v u Q I rx ry h;obtain⟨i,j,rfl,rfl,q⟩:=h;obtain⟨t,rfl⟩:=rx;obtain⟨t',rfl⟩:=ry;exact rule i j t t' s _ _ ⟨.int (g i j),H,I.tok _,⟨_,rfl⟩,q⟩
theorem Hy {f:Value->Value->Sem Value}{g:Int->Int->Bool}
  (rule:∀(i j:Int)(t u:Tok)(s:Shared)(Q:Value->Shared->Prop)(E:Value->Shared->Prop),Q (.bool (g i j)) s->wq X (f (.int i t) (.int j u)) Q E s):
  dr X f (Hb λi j=>.bl (g i j)):=by
 intro ae s σ H x y v u Q I rx ry h;obtain⟨i,j,rfl,rfl,q⟩:=h;obtain⟨t,rfl⟩:=rx;obtain⟨t',rfl⟩:=ry;exact rule i j t t' s _ _ ⟨.bl (g i j),H,I,rfl,q⟩
def Pl (i j:Int):Prop:=0<j/\j<1073741824
def Hz (i j:Int):Prop:=(-(2 ^ 64)<i/\i<2 ^ 64)∨(-(2 ^ 64)<j/\j<2 ^ 64)
theorem Hz.ok (h:Hz i j):IntMulOk i j:=by
 rcases h with⟨h1,h2⟩|⟨h1,h2⟩
 ·exact .of_left (intBits_le_64 h1 h2)
 ·exact .of_right (intBits_le_64 h1 h2)
theorem LX:dr X (binaryOp .Add) (Hb λi j=>.int (i+j)):=LW λ_ _ _ _ _ _ _ q=>add_int q
theorem LY:dr X (binaryOp .Sub) (Hb λi j=>.int (i - j)):=LW λ_ _ _ _ _ _ _ q=>sub_int q
theorem LZ:dr X (binaryOp .Mult) (rI Hz λi j=>.int (i*j)):=Sz λ_ _ _ _ _ _ _ hc q=>mul_int q hc.ok
theorem HA:dr X (binaryOp .FloorDiv) (rI Pl λi j=>.int (i / j)):=Sz λi j _ _ _ _ _ hc q=>by
 have h1:(0:Int)<j:=hc.1;have h2:j<1073741824:=hc.2;exact floordiv_int (by omega) (by rw[Int.fdiv_eq_ediv_of_nonneg i (by omega)];exact q) (.inl (PyProof.noPylong_small (by omega)))
theorem Ma:dr X (binaryOp .Mod) (rI (λ_ j=>0<j) λi j=>.int (i % j)):=Sz λi j _ _ _ _ _ hc q=>by
 have h1:(0:Int)<j:=hc;exact mod_int' (by omega) (by rw[Int.fmod_eq_emod_of_nonneg i (by omega)];exact q)
theorem Mb:dr X (binaryOp .BitAnd) (Hb λi j=>.int (Builtin.bitAnd i j)):=LW λ_ _ _ _ _ _ _ q=>and_int q
theorem W6 {f:Value->Sem Value}{g:Int->Int}
  (rule:∀(i:Int)(t:Tok)(s:Shared)(Q:Value->Shared->Prop)(E:Value->Shared->Prop),Q (.int (g i) s.toks) { s with toks:=s.toks+1 }->wq X (f (.int i t)) Q E s):
  Pj X f (rU λi=>.int (g i)):=by
 intro ae s σ H x v Q I rx h;obtain⟨i,rfl,q⟩:=h;obtain⟨t,rfl⟩:=rx;exact rule i t s _ _ ⟨.int (g i),H,I.tok _,⟨_,rfl⟩,q⟩
theorem Mc:Pj X (unaryOp .USub) (rU λi=>.int (-i)):=W6 λ_ _ _ _ _ q=>neg_int q
theorem C9:dr X (binaryOp .Add) (λx y H Q=>∃i k,x=.int i/\y=.bl k/\Q (.int (i+b2i k)) H):=by
 intro ae s σ H x y v u Q I rx ry h;obtain⟨i,k,rfl,rfl,q⟩:=h;obtain⟨t,rfl⟩:=rx;cases ry
 exact add_int_bool ⟨.int (i+b2i k),H,I.tok _,⟨_,rfl⟩,q⟩
end
section
variable {X:Cx}{a b c:Expr}{ta tb tc:TE}{pos:Pos}
theorem Pm:dr X (compareOp .Lt) (Hb λi j=>.bl (decide (i<j))):=Hy λ_ _ _ _ _ _ _ q=>lt_int q
theorem Pn:dr X (compareOp .LtE) (Hb λi j=>.bl (decide (i<=j))):=Hy λ_ _ _ _ _ _ _ q=>le_int q
theorem Po:dr X (compareOp .Gt) (Hb λi j=>.bl (decide (j<i))):=Hy λ_ _ _ _ _ _ _ q=>gt_int q
theorem Pp:dr X (compareOp .GtE) (Hb λi j=>.bl (decide (j<=i))):=Hy λ_ _ _ _ _ _ _ q=>ge_int q
theorem dr.or (h:dr X f r)(h':dr X f r'):dr X f (λx y H Q=>r x y H Q∨r' x y H Q):=by
 intro ae s σ H x y v u Q I rx ry q;rcases q with q|q
 ·exact h ae s σ H x y v u Q I rx ry q
 ·exact h' ae s σ H x y v u Q I rx ry q
theorem S3 (b:Expr)(h:op≠.In:=by decide)(h2:op≠.NotIn:=by decide):behindInMarks op b=false:=by
 have e1:(op == CmpOp.In)=false:=by cases op<;>first|rfl|exact absurd rfl h
 have e2:(op == CmpOp.NotIn)=false:=by cases op<;>first|rfl|exact absurd rfl h2
 cases b<;>simp[behindInMarks,e1,e2]
theorem HB (ho:dr X (compareOp op) r)(ha:PE X a ta)(hb:PE X b tb)(hm:behindInMarks op b=false):PE X (.Compare a [op] [b] pos) (R7 r ta tb):=by
 intro ae s σ H Q I h;exact wpAny_Compare1 (LV ha hb I h λv u s2 x y H2 I2 rx ry q=>ho ae s2 σ H2 x y v u Q I2 rx ry q) hm
def Ki (t:TE):TT:=λσ H Q=>t σ H λx H'=>∃k,x=.bl k/\Q k H'
theorem HC {op:CmpOp}{r:R2}(ho:dr X (compareOp op) r)(ha:PE X a ta)(hb:PE X b tb)(hm:behindInMarks op b=false):PT X (.Compare a [op] [b] pos) (Ki (R7 r ta tb)):=by
 intro ae s σ H Q I h;refine wpAny_isTrue_Compare1 (cx (ha ae s σ H _ I h) λv s1 ⟨x,H1,I1,r1,q1⟩=>cx (hb ae s1 σ H1 _ I1 q1) λu s2 ⟨y,H2,I2,r2,q2⟩=>
  cx (ho ae s2 σ H2 x y v u _ I2 r1 r2 q2) λc s3 ⟨z,H3,I3,r3,k,e,q3⟩=>?_) hm
 subst e;cases r3
 exact wpAny_truthy_bool ⟨H3,I3,q3⟩
def zH (r r':R2)(ta tb tc:TE):TE:=λσ H Q=>ta σ H λx H1=>tb σ H1 λy H2=>r x y H2 λz H3=>∃k,z=.bl k /\
 (if k=true then tc σ H3 λw' H4=>r' y w' H4 Q else Q (.bl false) H3)
theorem Et {op DN:CmpOp}{r r':R2}(ho:dr X (compareOp op) r)(oR:dr X (compareOp DN) r')(ha:PE X a ta)(hb:PE X b tb)(hc:PE X c tc)
  (hm:lastMarks [op,DN] [b,c]=false:=by with_unfolding_all rfl):PE X (.Compare a [op,DN] [b,c] pos) (zH r r' ta tb tc):=by
 intro ae s σ H Q I h;refine Compare_chain (cx (ha ae s σ H _ I h) λv s1 ⟨x,H1,I1,r1,q1⟩=>chain_link (cx (hb ae s1 σ H1 _ I1 q1) λu s2 ⟨y,H2,I2,r2,q2⟩=>
  cx (ho ae s2 σ H2 x y v u _ I2 r1 r2 q2) λd s3 ⟨z,H3,I3,r3,k,e,q3⟩=>?_)) hm
 subst e;cases r3
 refine wpAny_truthy_bool ?_;cases k with
 |false=>exact ite_ff ⟨.bl false,H3,I3,rfl,q3⟩
 |true=>exact ite_tt (chain_last (cx (hc ae s3 σ H3 _ I3 q3) λw' s4 ⟨z',H4,I4,r4,q4⟩=>oR ae s4 σ H4 y z' u w' Q I4 r2 r4 q4))
theorem Eu {op DN:CmpOp}{r r':R2}(ho:dr X (compareOp op) r)(oR:dr X (compareOp DN) r')(ha:PE X a ta)(hb:PE X b tb)(hc:PE X c tc)
  (hm:lastMarks [op,DN] [b,c]=false:=by with_unfolding_all rfl):PT X (.Compare a [op,DN] [b,c] pos) (Ki (zH r r' ta tb tc)):=by
 intro ae s σ H Q I h;refine isTrue_chain (cx (ha ae s σ H _ I h) λv s1 ⟨x,H1,I1,r1,q1⟩=>test_link (cx (hb ae s1 σ H1 _ I1 q1) λu s2 ⟨y,H2,I2,r2,q2⟩=>
  cx (ho ae s2 σ H2 x y v u _ I2 r1 r2 q2) λd s3 ⟨z,H3,I3,r3,k,e,q3⟩=>?_)) hm
 subst e;cases r3
 refine wpAny_truthy_bool ?_;cases k with
 |false=>
  obtain⟨k',e',q'⟩:=q3;cases e'
  exact ite_ff ⟨H3,I3,q'⟩
 |true=>
  refine ite_tt (test_last (cx (hc ae s3 σ H3 _ I3 q3) λw' s4 ⟨z',H4,I4,r4,q4⟩=>cx (oR ae s4 σ H4 y z' u w' _ I4 r2 r4 q4) λd' s5 ⟨z2,H5,I5,r5,k2,e2,q5⟩=>?_));subst e2;cases r5
  exact wpAny_truthy_bool ⟨H5,I5,q5⟩
theorem mT:(sizeLine:Nat)<2 ^ 63:=by rw[sizeLine_eq];decide
theorem zI:dr X (binaryOp .Add) (λx y H Q=>∃i j,x=.str i/\y=.str j/\i.length+j.length<=sizeLine/\Q (.str (i++j)) H):=by
 intro ae s σ H x y v u Q I rx ry h;obtain⟨i,j,rfl,rfl,hz,q⟩:=h;obtain⟨t,rfl⟩:=rx;obtain⟨t',rfl⟩:=ry;exact add_str (λt' tk=>⟨.str (i++j),H,I.tok _,⟨_,rfl⟩,q⟩) hz
theorem gP (r:aT [x] us):∃u,us=[u]/\aX x u:=by
 cases r with
 |cons r1 r2=>cases r2;exact⟨_,rfl,r1⟩
theorem Kj (r:aT [x,y] us):∃u w',us=[u,w']/\aX x u/\aX y w':=by
 cases r with
 |cons r1 r2=>
  cases r2 with
  |cons r3 r4=>cases r4;exact⟨_,_,rfl,r1,r3⟩
theorem CA (hc:X.calm=true):bQ X (.builtin "max") (λxs H Q=>∃i j,xs=[.int i,.int j]/\Q (.int (if j > i then j else i)) H):=by
 intro ae s σ H xs us Q I r h;obtain⟨i,j,rfl,q⟩:=h;obtain⟨u,w',rfl,⟨t,rfl⟩,⟨t',rfl⟩⟩:=Kj r;refine max_two_ints (I.ok.hd hc) λh' tk k=>⟨_,H,I.kept k,?_,q⟩;by_cases hj:j > i
 ·rw[if_pos hj,if_pos hj];exact⟨_,rfl⟩
 ·rw[if_neg hj,if_neg hj];exact⟨_,rfl⟩
theorem CB (hc:X.calm=true):bQ X (.builtin "min") (λxs H Q=>∃i j,xs=[.int i,.int j]/\Q (.int (if j<i then j else i)) H):=by
 intro ae s σ H xs us Q I r h;obtain⟨i,j,rfl,q⟩:=h;obtain⟨u,w',rfl,⟨t,rfl⟩,⟨t',rfl⟩⟩:=Kj r;refine min_two_ints (I.ok.hd hc) λh' tk k=>⟨_,H,I.kept k,?_,q⟩;by_cases hj:j<i
 ·rw[if_pos hj,if_pos hj];exact⟨_,rfl⟩
 ·rw[if_neg hj,if_neg hj];exact⟨_,rfl⟩
theorem CC:bQ X (.type "int") (λxs H Q=>(∃i,xs=[.int i]/\Q (.int i) H)∨∃k,xs=[.bl k]/\Q (.int (if k then 1 else 0)) H):=by
 intro ae s σ H xs us Q I r h;rcases h with⟨i,rfl,q⟩|⟨k,rfl,q⟩
 ·obtain⟨u,rfl,t,rfl⟩:=gP r;exact call_int_int ⟨.int i,H,I,⟨_,rfl⟩,q⟩
 ·obtain⟨u,rfl,r1⟩:=gP r;cases r1
  exact call_int_bool ⟨.int (if k then 1 else 0),H,I.tok _,⟨_,rfl⟩,q⟩
end
structure JL (h:Heap)(x dx C:Addr)(mA:Str->Option Value):Prop where
 obj:h.get? x=some (PySem.W.instObj C dx)
 ns:h.Ns1 dx mA
 ne:dx≠x
theorem CD {h:Heap}{dx:Addr}{mA:Str->Option Value}(n:h.Ns1 dx mA):∃od,h.get? dx=some od/\∀name,PySem.W.lookIn name od=some (mA name):=by
 obtain⟨o,es,ep,ho,hd,hk,_,hm⟩:=n;refine⟨o,ho,λname=>?_⟩;have e:=hm name;unfold nsFind findBy at e;rw[←Array.find?_toList]at e;unfold PySem.W.lookIn;rw[hd];dsimp only;split
 ·rename_i y q;rw[q]at e;exact congrArg some e
 ·rename_i q;rw[q]at e;have a:es.toList.any (·.refKey)=false:=by
   rw[List.any_eq_false];intro y hy;obtain⟨z,t,DO⟩:=hk y (Array.mem_toList_iff.mp hy);simp[DictEntry.refKey,DO]
  have a':¬es.toList.any (·.refKey)=true:=by rw[a];exact uX
  rw[if_neg a'];exact congrArg some e
theorem JL.look (I:JL h x dx C mA):∃od,PySem.W.InstAt h x (PySem.W.instObj C dx) C (some od)/\∀name,PySem.W.lookIn name od=some (mA name) :=
 let ⟨od,ho,hl⟩:=CD I.ns
 ⟨od,⟨I.obj,rfl,rfl,ho⟩,hl⟩
section
variable {prog:Program}{w:World}{A:Around}{E:Value->Shared->Prop}{s:Shared}{K:Frag}{x dx C f:Addr}{mA:Str->Option Value}{name:Str}{v:Value}
theorem Ev (X:K.In s.heap)(I:JL s.heap x dx C mA)(hg:PySem.W.plainGet K C name=true)
  (hf:PySem.W.findIn K (.ref C) name=some (some (.ref f))) (ht:PySem.W.isFn K (.ref f)=true) (hv:mA name=none) (h:Q (.ref f,[.ref x]) s):
  wpAny (model prog w) A (getMethod (.ref x) name pl) Q E s:=by
 obtain⟨od,J,hl⟩:=I.look;exact PySem.W.method_fn X J (PySem.W.plainGet_of hg).1 (PySem.W.plainGet_of hg).2 hf (beq_iff_eq.mp ht) (by show(PySem.W.lookIn name od).map (·.isSome)=some false;rw[hl,hv];rfl) h
theorem Pq (X:K.In s.heap)(hm:PySem.W.makesIn K C=true)
  (hi:PySem.W.findIn K (.ref C) "__init__" = some (some (.ref f))) (hf:PySem.W.typeIn K (.ref f)=some (.type "function"))
  (h:codeAny (model prog w) (A.under (.builtin "type.__call__" ⟨.ref C::vs,kw⟩)) (.call (.ref f) ⟨.ref (s.heap.objs.size+1)::vs,kw⟩) (PySem.W.InitBack (s.heap.objs.size+1) R)
   { s with heap:=(s.heap.push PySem.W.emptyDict).push (PySem.W.instObj C s.heap.objs.size) }):
  codeAny (model prog w) A (.call (.ref C) ⟨vs,kw⟩) R s:=by
 obtain⟨hh,g,d,t,os⟩:=s;exact PySem.W.make_core (PySem.W.makes_of X hm) (PySem.W.looks_findIn X hi) (λself=>PySem.W.bind_fn X self hf) (.inl rfl) h
end
theorem oE.none_of (r:oE none o):o=none:=by
 cases o with
 |none=>rfl
 |some u=>exact(show False from r).elim
section
variable {P:Program}{w:World}{H H':Hp}{h h':Heap}{a C dx:Addr}{fs Xx:List (Str×V)}
theorem HD (hok:kR P w H h)(e:H a=some (.ins C dx fs)):∃mA,JL h a dx C mA/\(∀f,oE (fs.lookup f) (mA f))/\PySem.Within mA (fs.map (·.1))/\fs.length<=1000/\H dx=some (.own a):=by
 obtain⟨d,z,ne,ob,mA,n,r,q⟩:=(show ce P w H h a (.ins C dx fs)from hok a _ e);exact⟨mA,⟨ob,n,ne⟩,r,q,z,d⟩
end
structure Cls (K:Frag)(C:Addr):Prop where
 pg:PySem.W.plainGet K C Str.empty=true
 hd:PySem.W.hasDictIn K C=true
 po:PySem.W.plainOver K C=true
 sa:PySem.W.findIn K (.ref C) "__setattr__" = some (some (.builtin "object.__setattr__"))
theorem Cls.get {K:Frag}{C:Addr}(c:Cls K C)(f:Str):PySem.W.plainGet K C f=true:=c.pg
def Md (K:Frag)(C:Addr)(f:Str):Prop:=PySem.W.findIn K (.ref C) f=some none
structure Meth (K:Frag)(C:Addr)(m:Str)(f:Addr):Prop where
 at_:PySem.W.findIn K (.ref C) m=some (some (.ref f))
 fn:PySem.W.isFn K (.ref f)=true
 kp:PySem.W.keepIn K (.ref f)=true
section
variable {X:Cx}{ae:List (Addr×Obj)}{σ:St}{H:Hp}{s:Shared}{a C dx:Addr}{fs:List (Str×V)}{f:Str}{v:V}{A:Around}{E:Value->Shared->Prop}
theorem zJ {m:Str}{g:Addr}{pl:Sem Bool}{Q:Value×List Value->Shared->Prop}(I:Inv X ae σ H s)(e:H a=some (.ins C dx fs))(c:Cls X.K C)(k:Meth X.K C m g)(l:fs.lookup m=none)
  (h:Q (.ref g,[.ref a]) s):wpAny (model X.prog X.w) A (getMethod (.ref a) m pl) Q E s:=by
 obtain⟨mA,O,r,_,_,_⟩:=HD I.hok e;have hn:mA m=none:=oE.none_of (by rw[←l];exact r m);exact Ev I.kIn O (c.get m) k.at_ k.fn hn h
theorem Inv.made (I:Inv X ae σ H s):Inv X ae σ (upd (upd H s.heap.objs.size (.own (s.heap.objs.size+1))) (s.heap.objs.size+1) (.ins C s.heap.objs.size []))
  { s with heap:=(s.heap.push PySem.W.emptyDict).push (PySem.W.instObj C s.heap.objs.size) }:=by
 have e1:(s.heap.push PySem.W.emptyDict).get? s.heap.objs.size=some PySem.W.emptyDict:=vY s.heap rfl;have e2:((s.heap.push PySem.W.emptyDict).push (PySem.W.instObj C s.heap.objs.size)).get? (s.heap.objs.size+1)=some (PySem.W.instObj C s.heap.objs.size):=by
  have:=vY (s.heap.push PySem.W.emptyDict) (o:=PySem.W.instObj C s.heap.objs.size) rfl;rwa [Heap.size_push]at this
 have e3:(s.heap.push PySem.W.emptyDict).Ns s.heap.objs.size (λ_=>none):=⟨PySem.W.emptyDict,#[],_,e1,rfl,(λe he=>absurd he (by simp)),λ_=>rfl⟩;have I1:=I.laid (a:=s.heap.objs.size) (o:=.own (s.heap.objs.size+1)) (h':=s.heap.push PySem.W.emptyDict) (t':=s.toks) (λb u q=>vZ _ q) (vT _) ⟨_,e1⟩;refine I1.laid (a:=s.heap.objs.size+1) (o:=.ins C s.heap.objs.size []) (t':=s.toks) (λb u q=>vZ _ q) (Nat.le_of_eq (Heap.size_push _ _)) ?_;have ne:s.heap.objs.size≠s.heap.objs.size+1:=vS (Nat.lt_succ_self _);refine⟨by rw[aH ne,aE],uN _,ne,e2,λ_=>none,(Heap.Ns1.of_empty e3).at λo q=>vZ _ q,λ_=>True.intro,λy hy=>absurd rfl hy⟩
end
def W7 (K:Frag)(ta:TE)(f:Str):TE:=λσ H Q=>ta σ H λx H1=>∃a C dx fs v,x=.ref a/\H1 a=some (.ins C dx fs)/\Cls K C/\Md K C f/\fs.lookup f=some v/\Q v H1
section
variable {X:Cx}{o e value:Expr}{f:Str}{pos zp DP:Pos}{ta tv:TE}
theorem Kk {pl:Sem Bool}{m:Str}{dw:Pos}{args:List Expr}{ae:List (Addr×Obj)}{s:Shared}{σ:St}{H:Hp}{Q:Value->Shared->Prop}{te:TE}(he:PE X e te)(I:Inv X ae σ H s)
  (h:te σ H λx H1=>∃a C dx fs g,x=.ref a/\H1 a=some (.ins C dx fs)/\Cls X.K C/\Meth X.K C m g/\fs.lookup m=none /\
   ∀s1,Inv X ae σ H1 s1->wq X (callWith pos (.ref g) [.ref a] (backTo pos (starEach args X.env)) (backToKw pos (keywordEach [] X.env))) Q X.xe s1)
  (ht:eval (.Call (.Attribute e m dw) args [] pos) X.env=(do
   let ov ←eval e X.env
   standAt dw.atName
   let (f,first) ←holding [ov] (getMethod ov m pl)
   callWith pos f first (backTo pos (starEach args X.env)) (backToKw pos (keywordEach [] X.env)))):
  wq X (eval (.Call (.Attribute e m dw) args [] pos) X.env) Q X.xe s:=by
 refine PySem.W.methodCall_KW (pl:=pl) (cx (he ae s σ H _ I h) λu s1 ⟨x,H1,I1,rx,a,C,dx,fs,g,ex,ea,c,k,l,q⟩=>?_) ht;subst ex;obtain rfl:u=Value.ref a:=rx;exact zJ I1 ea c k l (q s1 I1)
end
section
variable {X:Cx}{ae:List (Addr×Obj)}{σ:St}{H:Hp}{s:Shared}{A:Around}{E:Value->Shared->Prop}{Q:Value->Shared->Prop}{c:Value}{b:Bool}
inductive TyOf (K:Frag)(H:Hp):V->Value->Prop where
 |non:TyOf K H .non (.type "NoneType")
 |bl (x:Bool):TyOf K H (.bl x) (.type "bool")
 |int (i:Int):TyOf K H (.int i) (.type "int")
 |str (x:Str):TyOf K H (.str x) (.type "str")
 |flt (x:UInt64):TyOf K H (.flt x) (.type "float")
 |lst {a:Addr}{xs:List V}(e:H a=some (.lst xs)):TyOf K H (.ref a) (.type "list")
 |frz {a:Addr}{o:Obj}{xs:List V}(e:H a=some (.frz o (.lst xs))):TyOf K H (.ref a) (.type "list")
 |tup {a:Addr}{xs:List V}(e:H a=some (.tup xs)):TyOf K H (.ref a) (.type "tuple")
 |dK {a:Addr}{aI:List (cw×V)}{ob:Obj}(e:H a=some (.dK aI ob)):TyOf K H (.ref a) (.type "dict")
 |dT {a:Addr}{aI:List (List cw×V)}(e:H a=some (.dT aI)):TyOf K H (.ref a) (.type "dict")
 |ins {a C dx:Addr}{fs:List (Str×V)}(e:H a=some (.ins C dx fs)) (cl:Cls K C) (ha:PySem.W.findIn K (.ref C) "__class__" = some (some (.builtin "object.__class__")))
   (hn:PySem.W.specialIn K (.builtin "object.__class__") "__get__" = some (some (.builtin "getset_descriptor.__get__"))) (Zq:PySem.W.takesIn K (.builtin "object.__class__")=some true)
   (hm:PySem.W.mroIn K C (.type "object")=some true):TyOf K H (.ref a) (.ref C)
end
structure eN (k:Nat)(A:Around):Prop where
 hd:A.handled=none
 dp:A.depth+3*k+5<recursionLimit
 un:A.units+16*k+200<cLine
theorem eN.mono (r:eN k A)(h:j<=k):eN j A:=⟨r.hd,by have:=r.dp;omega,by have:=r.un;omega⟩
theorem eN.deeper (r:eN (k+1) A)(env:Env):eN k (A.deeper env) :=
 ⟨r.hd,by have:=r.dp;show A.depth+1+3*k+5<_;omega,by have:=r.un;show A.units+3+16*k+200<_;omega⟩
theorem eN.in1 (r:eN (k+1) A):eN k A.in1 :=
 ⟨r.hd,by have:=r.dp;show A.depth+3*k+5<_;omega,by have:=r.un;show A.units+1+16*k+200<_;omega⟩
theorem eN.depth (r:eN k A):A.depth<recursionLimit:=by have:=r.dp;omega
def Pr:TA:=λ_ H Q=>Q [] H
def Kl (ta:TE)(tr:TA):TA:=λσ H Q=>ta σ H λx H1=>tr σ H1 λxs H2=>Q (x::xs) H2
section
variable {X:Cx}{e:Expr}{es:List Expr}{te:TE}{t:TA}{pos:Pos}
theorem jR:PA X [] Pr:=λ_ _ _ _ H Q I h=>Calls.spliced_nil ⟨[],H,I,.nil,h⟩
theorem iF (ha:PE X e te)(hr:PA X es t)(hs:starEach (e::es) X.env=(false,eval e X.env)::starEach es X.env:=by rfl):PA X (e::es) (Kl te t):=by
 intro pos ae s σ H Q I h;rw[hs];show wpAny _ _ (spliced ((false,eval e X.env)::backTo pos (starEach es X.env))) _ _ s;refine Calls.spliced_cons (cx (ha ae s σ H _ I h) λu s1 ⟨x,H1,I1,r1,q1⟩=>?_);exact cx (hr pos ae s1 σ H1 _ I1 q1) λus s2 ⟨xs,H2,I2,r2,q2⟩=>⟨x::xs,H2,I2,.cons r1 r2,q2⟩
def Ps (t:TA):TE:=λσ H Q=>t σ H λxs H1=>xs.length<=sizeLine/\∀p,H1 p=none->Q (.ref p) (upd H1 p (.tup xs))
def S4 (t:TA):TE:=λσ H Q=>t σ H λxs H1=>xs.length<=sizeLine/\∀p,H1 p=none->Q (.ref p) (upd H1 p (.lst xs))
theorem zK {x1}(h:PA X es t):PE X (.Tuple es x1 pos) (Ps t):=by
 intro ae s σ H Q I hq;refine wpAny_Tuple_spliced (cx (h pos ae s σ H _ I hq) λus s1 ⟨xs,H1,I1,r,z,q⟩=>⟨by rw[←r.length];exact z,?_⟩);have hf:H1 s1.heap.objs.size=none:=I1.hok.fresh (vT _);refine⟨.ref s1.heap.objs.size,upd H1 s1.heap.objs.size (.tup xs),I1.laid (t':=s1.toks) (λb u e=>vZ _ e) (vT _) ?_,rfl,q _ hf⟩;exact⟨z,us,r,⟨_,vY _ rfl,rfl,_,rfl⟩⟩
theorem Me (h:PA X es t):PE X (.List es pos) (S4 t):=by
 intro ae s σ H Q I hq;refine wpAny_List_spliced (cx (h pos ae s σ H _ I hq) λus s1 ⟨xs,H1,I1,r,z,q⟩=>⟨by rw[←r.length];exact z,?_⟩);have hf:H1 s1.heap.objs.size=none:=I1.hok.fresh (vT _);refine⟨.ref s1.heap.objs.size,upd H1 s1.heap.objs.size (.lst xs),I1.laid (t':=s1.toks) (λb u e=>vZ _ e) (vT _) ?_,rfl,q _ hf⟩;exact⟨z,us,0,r,vY _ rfl⟩
end
abbrev Sp:=List V->Hp->VK->XK->Prop
abbrev Km:=List Env->Hp->Shared->XK->Value->Shared->Prop
structure Env0 (P:Program)(w:World)(K:Frag)(mg:Str->Option Value)(base:Heap)(A:Around)(outer:List Env)(s:Shared)(H:Hp):Prop where
 frames:A.frames=some outer
 mod:Mod K mg base
 bs:∀b o,base.get? b=some o->s.heap.get? b=some o/\H b=none
 bsz:base.objs.size<=s.heap.objs.size
 funs:s.heap.FunFrames base outer
 frf:∀b∈Ec outer,H b=none
 hok:kR P w H s.heap
 bare:AllBare s.gens
def CE (outer:List Env)(P:Program)(w:World)(H:Hp)(s:Shared)(Q:VK)(u:Value)(s':Shared):Prop :=
 ∃v H',s'.os=s.os/\AllBare s'.gens/\Un (Ec outer) [] H H' s.heap s'.heap/\kR P w H' s'.heap/\aX v u/\Q v H'
def CR (CX:Km)(outer:List Env)(P:Program)(w:World)(H:Hp)(s:Shared)(Q:VK)(E:XK)(r:Result)(s':Shared):Prop :=
 match r with
 |.ok (.ret u)=>CE outer P w H s Q u s'
 |.ok _=>False
 |.error e=>CX outer H s E e s'
structure sw (P:Program)(w:World)(K:Frag)(mg:Str->Option Value)(base:Heap)(CX:Km)(k:Nat)(f:Addr)(fd:FuncData)(ps:List Str)(sp:Sp):Prop where
 len:∀vs H Q E,sp vs H Q E->vs.length=ps.length
 run:∀(A:Around)(outer:List Env)(s:Shared)(H:Hp)(args:Args)(us:List Value)(vs:List V)(Q:VK)(E:XK),eN k A->Env0 P w K mg base A outer s H->BindsTo s fd args (ps.zip us)->aT vs us->sp vs H Q E ->
  codeAny (model P w) A (.call (.ref f) args) (CR CX outer P w H s Q E) s
section
variable {X:Cx}{ae:List (Addr×Obj)}{σ:St}{H:Hp}{s s':Shared}
theorem Inv.env0 (I:Inv X ae σ H s):Env0 X.prog X.w X.K X.mg X.base X.A X.stack s H :=
 ⟨I.ok.frames,I.ok.mod,I.bs,vR I.ok.bsz I.sz,I.stack,I.stkFree,I.hok,I.bare⟩
theorem Inv.after (I:Inv X ae σ H s)(h:CE X.stack X.prog X.w H s Q u s'):EP X ae σ Q u s':=by
 obtain⟨v,H',os,bare,un,hok,r,q⟩:=h;obtain⟨hh,g,d,t,T4⟩:=s';obtain rfl:T4=s.os:=os;exact⟨v,H',I.call (h':=hh) (g':=g) (d':=d) (t':=t) (ch:=[]) un hok bare (λb z=>absurd z (by simp)),r,q⟩
end
def Pt (sp:Sp)(DQ:List V)(E:XK)(t:TA):TE:=λσ H Q=>t σ H λvs H1=>sp (vs++DQ) H1 Q E
def UN (C:Addr)(m:Str)(sp:Sp)(DQ:List V)(E:XK)(ta:TE)(t:TA):TE:=λσ H Q=>ta σ H λx H1=>∃a dx fs,x=.ref a/\H1 a=some (.ins C dx fs)/\fs.lookup m=none /\
 t σ H1 λvs H2=>sp (x::(vs++DQ)) H2 Q E
def UO (C:Addr)(sp:Sp)(DQ:List V)(E:XK)(t:TA):TE:=λσ H Q=>t σ H λvs H1=>∀x dx,H1 x=none->H1 dx=none->dx≠x ->
 sp (.ref x::(vs++DQ)) (upd (upd H1 dx (.own x)) x (.ins C dx [])) (λv H2=>v=.non/\Q (.ref x) H2) E
def sE (K:Frag)(fd:FuncData)(ps:List Str)(ds:List Value):Prop :=
 ∀(s:Shared)(us:List Value),K.In s.heap->(us++ds).length=ps.length->BindsTo s fd ⟨us,[]⟩ (ps.zip (us++ds))
theorem sE.all {K:Frag}{fd:FuncData}{ps:List Str}(h:∀us:List Value,us.length=ps.length->bindArgs fd ⟨us,[]⟩=pure (ps.zip us)):sE K fd ps []:=λs us _ hl=>by
 rw[uQ]at hl ⊢;exact .of_eq (h us hl)
def zL (CX:Km)(X:Cx)(E:XK):Prop:=∀(ae:List (Addr×Obj))(σ:St)(H:Hp)(s:Shared)(e:Value)(s':Shared),Inv X ae σ H s->CX X.stack H s E e s'->X.xe e s'
section
variable {X:Cx}{CX:Km}{k:Nat}{f C:Addr}{fd:FuncData}{ps:List Str}{sp:Sp}{DQ:List V}{ds:List Value}{E:XK}{x m:Str}{p pos dw:Pos}{e o:Expr}{es:List Expr}{ta:TE}{t:TA}
theorem Mf {ae:List (Addr×Obj)}{σ:St}{H:Hp}{s:Shared}{Q:VK}{us:List Value}{vs:List V}(F:sw X.prog X.w X.K X.mg X.base CX k f fd ps sp)(hr:eN k X.A)(hb:sE X.K fd ps ds)(hd:aT DQ ds)(hx:zL CX X E)
  (I:Inv X ae σ H s) (r:aT vs us) (h:sp (vs++DQ) H Q E):wq X (call (.ref f) us) (EP X ae σ Q) X.xe s:=by
 have r2:aT (vs++DQ) (us++ds):=r.append hd;have hl:(us++ds).length=ps.length:=by rw[←r2.length];exact F.len _ _ _ _ h
 refine wpAny_call (codeAny_mono (F.run X.A X.stack s H ⟨us,[]⟩ (us++ds) (vs++DQ) Q E hr I.env0 (hb s us I.kIn hl) r2 h) λr s' hq=>?_);cases r with
 |error e=>exact hx ae σ H s e s' I hq
 |ok fl=>
  cases fl with
  |ret u=>exact I.after hq
  |next=>exact False.elim hq
  |brk=>exact False.elim hq
  |cont=>exact False.elim hq
theorem HE (F:sw X.prog X.w X.K X.mg X.base CX k f fd ps sp)(hr:eN k X.A)(hg:Gl X x)(hm:X.mg x=some (.ref f))(hk:PySem.W.keepIn X.K (.ref f)=true)(hb:sE X.K fd ps ds)(hd:aT DQ ds)(hx:zL CX X E)
  (ha:PA X (e::es) t) (sx:(x == ("__debug__" : Str))=false:=by decide) (he:starEach (e::es) X.env=(false,eval e X.env)::starEach es X.env:=by rfl) (ls:(backTo pos (starEach es X.env)).any (·.1)=false:=by rfl):
  PE X (.Call (.Name x p) (e::es) [] pos) (Pt sp DQ E t):=by
 intro ae s σ H Q I h;refine wpAny_Call_Name_kw (uz I hg hm ?_ sx);refine PySem.W.callWith_K (h₀:=X.base) I.ok.mod.kin hk (cx (ha pos ae s σ H _ I h) λus s1 ⟨vs,H1,I1,r,q⟩=>⟨I1.kIn,?_⟩) he ls;exact Mf F hr hb hd hx I1 r q
end
structure FnScope (N P:List Str)(sc:Scope):Prop where
 kind:sc.kind=.function
 co:sc.isCoroutine=false
 gen:sc.isGenerator=false
 nd:N.Nodup
 pre:N.take P.length=P
 par:∀x∈P,sc.names.lookup x=some .local∨sc.names.lookup x=some .cell
 nofree:∀y∈sc.names,y.2≠.free
theorem sG {kindOf:Str->Option NameKind}{x:Str}:∀ {binds:List (Str×Value)}{m:Str->Option Value},(∀v,(x,v)∉binds)->bindL kindOf binds m x=m x
 |[],_,_=>rfl
 | (n,v)::r,m,h=>by
  unfold bindL;rw[sG λw hw=>h w (mZ _ hw)];split
  ·have:x≠n:=by rintro rfl;exact h v mX
   simp[this]
  ·rfl
theorem sI {kindOf:Str->Option NameKind}{x:Str}:∀ {binds:List (Str×Value)}{m:Str->Option Value},(∀v,(x,v)∉binds)->bindC kindOf binds m x=m x
 |[],_,_=>rfl
 | (n,v)::r,m,h=>by
  unfold bindC;rw[sI λw hw=>h w (mZ _ hw)];split
  ·rfl
  ·have:x≠n:=by rintro rfl;exact h v mX
   simp[this]
theorem sJ {kindOf:Str->Option NameKind}{x:Str}{v:Value}:∀ {P:List Str}{vs:List Value}{i:Nat}{m:Str->Option Value},P.Nodup->P[i]? = some x->vs[i]? = some v->kindOf x=some .local ->
  bindL kindOf (P.zip vs) m x=some v
 |[],_,_,_,_,h,_,_=>by simp at h
 |_::_,[],_,_,_,_,h,_=>by simp at h
 |p::P,w::vs,0,m,nd,h1,h2,hk=>by
  simp at h1 h2;subst h1;subst h2;show bindL kindOf ((p,w)::P.zip vs) m p=_;unfold bindL;rw[sG λv hv=>(List.nodup_cons.mp nd).1 (List.of_mem_zip hv).1,if_pos hk];simp
 |p::P,w::vs,i+1,m,nd,h1,h2,hk=>by
  show bindL kindOf ((p,w)::P.zip vs) m x=_;unfold bindL;exact sJ (i:=i) (List.nodup_cons.mp nd).2 (by simpa using h1) (by simpa using h2) hk
theorem sK {kindOf:Str->Option NameKind}{x:Str}{v:Value}:∀ {P:List Str}{vs:List Value}{i:Nat}{m:Str->Option Value},P.Nodup->P[i]? = some x->vs[i]? = some v->kindOf x≠some .local ->
  bindC kindOf (P.zip vs) m x=some v
 |[],_,_,_,_,h,_,_=>by simp at h
 |_::_,[],_,_,_,_,h,_=>by simp at h
 |p::P,w::vs,0,m,nd,h1,h2,hk=>by
  simp at h1 h2;subst h1;subst h2;show bindC kindOf ((p,w)::P.zip vs) m p=_;unfold bindC;rw[sI λv hv=>(List.nodup_cons.mp nd).1 (List.of_mem_zip hv).1,if_neg hk];simp
 |p::P,w::vs,i+1,m,nd,h1,h2,hk=>by
  show bindC kindOf ((p,w)::P.zip vs) m x=_;unfold bindC;exact sK (i:=i) (List.nodup_cons.mp nd).2 (by simpa using h1) (by simpa using h2) hk
noncomputable def jG (N:List Str)(vs:List V):St:=vs.map some++List.replicate (N.length - vs.length) none
noncomputable def oF (CX:Km)(P:Program)(w:World)(K:Frag)(mg:Str->Option Value)(base:Heap)(N:List Str)(qual:Str)(scope:Scope)(f:Addr)(cd:Value)(A:Around)(outer:List Env)(s:Shared)(H:Hp)(E:XK):Cx where
 prog:=P
 w:=w
 K:=K
 mg:=mg
 base:=base
 A:=A.deeper (envOfC qual scope s.heap.objs.size f cd)
 N:=N
 s₀:=s
 H₀:=H
 env:=envOfC qual scope s.heap.objs.size f cd
 outer:=outer
 stack:=envOfC qual scope s.heap.objs.size f cd::outer
 ex:=[]
 calm:=true
 fn:=λ_=>true
 pn:=[]
 xe:=λe s'=>wpAny (model P w) (A.deeper (envOfC qual scope s.heap.objs.size f cd)) (leaving (envOfC qual scope s.heap.objs.size f cd) e) (λ_ Ek=>CX outer H s E e Ek) (λe' Ek=>CX outer H s E e' Ek) s'
theorem xa {sc:Scope}{n:Nat}{x:Str}(h:sc.names.lookup x=some .cell):∃c,(cellsFrom n sc.names []).lookup x=some c:=by
 have q:=PySem.W.cellsFrom_some sc.names n [] (.inl h);exact uU q
theorem CF {CX:Km}{P:Program}{w:World}{K:Frag}{mg:Str->Option Value}{base:Heap}{N ps:List Str}{qual:Str}{scope:Scope}{f:Addr}{cd:Value}{A:Around}{outer:List Env}{s s1:Shared}{H:Hp}{E:XK}{us:List Value}{vs:List V}
  (S:FnScope N ps scope) (hd:A.handled=none) (e0:Env0 P w K mg base A outer s H) (hl:vs.length=ps.length) (r:aT vs us)
  (x:InCallC s s.heap.objs.size (bindL (envOfC qual scope s.heap.objs.size f cd).kindOf (ps.zip us) λ_=>none) (cellsFrom (s.heap.objs.size+1) scope.names []) (bindC (envOfC qual scope s.heap.objs.size f cd).kindOf (ps.zip us) λ_=>none) s1):
  Inv (oF CX P w K mg base N qual scope f cd A outer s H E) [] (jG N vs) H s1:=by
 have ls:ps.length<=N.length:=by have:=congrArg List.length S.pre;rw[List.length_take]at this;omega
 obtain⟨h1,tk,rfl,hk⟩:=x.done;have JM:∀b:Addr,b∉(oF CX P w K mg base N qual scope f cd A outer s H E).ex:=λb z=>absurd (show b∈([]:List Addr)from z) (by simp);refine⟨⟨e0.mod,S.kind,rfl,rfl,vT _,λy z c h1 h2=>?_,λy hy=>?_,λy c _ h=>?_,λ_=>hd,Around.frames_deeper e0.frames,.inr ⟨rfl,rfl⟩,λb z=>absurd z (JM b),e0.bs,e0.bsz,λb _ _=>JM b,λb z=>absurd z (JM b),e0.funs,e0.frf⟩,
  rfl,e0.bare,Un.kept hk,⟨_,x.toInCall.ns,λi y v h1 h2 h3=>?_⟩,λy c h=>⟨_,x.cell y c h⟩,e0.hok.fresh (vT _),λy c h=>?_,λp hp=>absurd (show p∈([]:List (Addr×Obj))from hp) (by simp),e0.hok.kept hk,?_⟩
 ·exact name_of_addr x.apart (PySem.mem_of_lookup h1) (PySem.mem_of_lookup h2)
 ·have hy:scope.names.lookup y=some .cell∨scope.names.lookup y=some .free:=hy;rcases hy with hy|hy
  ·exact xa hy
  ·exact absurd rfl (S.nofree _ (PySem.mem_of_lookup hy))
 ·exact Nat.le_of_lt (x.above y c (PySem.mem_of_lookup h))
 ·have hi:i<vs.length:=by
   unfold jG at h2;by_cases hi:i<vs.length
   ·exact hi
   ·rw[List.getElem?_append_right (by simpa using hi)]at h2;rw[List.getElem?_replicate]at h2;split at h2<;>cases h2
  have ha:vs[i]? = some v:=by
   unfold jG at h2;rw[List.getElem?_append_left (by simpa using hi),vA]at h2;cases e:vs[i]? with
   |none=>rw[e]at h2;cases h2
   |some a=>rw[e]at h2;cases h2;rfl
  obtain⟨u,hu,rv⟩:=r.get ha;have hp:ps[i]? = some y:=by
   rw[←S.pre,List.getElem?_take_of_lt (by omega)];exact h1
  have Vy:ps.Nodup:=by rw[←S.pre];exact S.nd.sublist (List.take_sublist _ _)
  refine⟨u,rv,?_⟩;rcases S.par y (vL hp)with k|k
  ·exact .inl ⟨k,sJ Vy hp hu k⟩
  ·obtain⟨c,e⟩:=xa (n:=s.heap.objs.size+1) k;refine .inr ⟨.inl k,c,e,?_⟩;have q:=x.cell y c e;rw[sK Vy hp hu (by show scope.names.lookup y≠_;rw[k];decide)]at q;exact q
 ·exact e0.hok.fresh (Nat.le_of_lt (x.above y c (PySem.mem_of_lookup h)))
 ·unfold jG;show _=N.length;rw[uZ,vI,List.length_replicate];omega
theorem Kn {CX:Km}{P:Program}{w:World}{K:Frag}{mg:Str->Option Value}{base:Heap}{k:Nat}{f:Addr}{name qual:Str}{params:Arguments}{body:List Stmt}{scope:Scope}{dV kV doc pm eI ct oc:Value}{an od:Option Addr}
  {oC:Array (Option Value)}{N ps:List Str}{sp:Sp}(lk:K.lookup f=some ⟨oc,od,.func (fnOf name qual params body scope dV kV doc pm an eI ct),oC⟩) (jv:PySem.W.codeIn K eI qual=true) (S:FnScope N ps scope)
  (len:∀vs H Q E,sp vs H Q E->vs.length=ps.length)
  (GL:∀(A:Around)(outer:List Env)(s:Shared)(H:Hp)(vs:List V)(Q:VK)(E:XK),eN k (A.deeper (envOfC qual scope s.heap.objs.size f eI))->sp vs H Q E ->
   ∃t,uy (oF CX P w K mg base N qual scope f eI A outer s H E) body t/\t { nx:=λ_ H'=>Q .non H',rt:=Q } (jG N vs) H):
  sw P w K mg base CX (k+1) f (fnOf name qual params body scope dV kV doc pm an eI ct) ps sp:=by
 refine⟨len,λA outer s H args us vs Q E hr e0 hb r O8=>?_⟩;have hl:=len _ _ _ _ O8;have KX:K.In s.heap:=e0.mod.kin.keeps λb o e=>(e0.bs b o e).1;have Xz:s.heap.NoLimit:=e0.mod.nolimit.keeps λb o e=>(e0.bs b o e).1;have Q2:∀y∈ps.zip us,scope.names.lookup y.1=some .local∨(scope.names.lookup y.1=some .cell/\((cellsFrom (s.heap.objs.size+1) scope.names []).lookup y.1).isSome=true):=λ⟨n,v⟩ hy=>by
  rcases S.par n (List.of_mem_zip hy).1 with q|q
  ·exact .inl q
  ·exact .inr ⟨q,PySem.W.cellsFrom_some _ _ _ (.inl q)⟩
 refine codeAny_call_function hr.depth (KX _ _ lk) rfl S.co S.gen rfl (PySem.W.codeRec_of KX jv) (hb _ _ _ _ ?_);refine wpAny_newFunctionEnv_cells S.kind Q2 λenv he s1 x=>?_;subst he;refine⟨Xz.keeps x.toInCall.keep,codeAny_func ?_⟩;obtain⟨t,ht,hq⟩:=GL A outer s H vs Q E (hr.deeper _) O8;have I:Inv (oF CX P w K mg base N qual scope f eI A outer s H E) [] (jG N vs) H s1:=CF S hr.hd e0 hl r x;refine wpAny_mono (ht [] s1 (jG N vs) H _ I hq) (λfl s' hs=>?_) λe s' hs=>hs;have kX:∀ {σ':St}{H':Hp}{v:V}{u:Value},Inv (oF CX P w K mg base N qual scope f eI A outer s H E) [] σ' H' s'->aX v u->Q v H'->CE outer P w H s Q u s' :=
  λ{σ' H' v u} J rv q=>⟨v,H',J.os,J.bare,J.base,J.hok,rv,q⟩
 cases fl with
 |ret u=>
  obtain⟨v,σ',H',J,rv,q⟩:=hs;exact kX J rv q
 |next=>
  obtain⟨σ',H',J,q⟩:=hs;exact kX (v:=V.non) (u:=Value.none) J rfl q
 |brk=>
  obtain⟨_,_,_,q⟩:=hs;exact False.elim q
 |cont=>
  obtain⟨_,_,_,q⟩:=hs;exact False.elim q
section
variable {X:Cx}{x:Str}{p pos:Pos}{e:Expr}{es:List Expr}{t:TA}{id T:String}{r:List V->Hp->VK->Prop}
def UP (r:List V->Hp->VK->Prop)(t:TA):TE:=λσ H Q=>t σ H λvs H1=>r vs H1 Q
theorem xc (hc:bQ X (.builtin id) r)(hg:Gl X x)(hm:X.mg x=none)(hv:bootBuiltins x=some (.builtin id))(ha:PA X (e::es) t)(hn:x ≠ "__name__":=by decide)(sx:(x == ("__debug__" : Str))=false:=by decide)
  (he:starEach (e::es) X.env=(false,eval e X.env)::starEach es X.env:=by rfl) (ls:(backTo pos (starEach es X.env)).any (·.1)=false:=by rfl):PE X (.Call (.Name x p) (e::es) [] pos) (UP r t):=by
 intro ae s σ H Q I h;refine wpAny_Call_Name_kw (lx I hg hm hv ?_ hn sx);exact PyProof.Rows.callWith_builtin1 (cx (ha pos ae s σ H _ I h) λus s1 ⟨vs,H1,I1,r1,q1⟩=>hc ae s1 σ H1 vs us Q I1 r1 q1) he ls
theorem sL (hc:bQ X (.type T) r)(hg:Gl X x)(hm:X.mg x=none)(hv:bootBuiltins x=some (.type T))(ha:PA X (e::es) t)(hn:x ≠ "__name__":=by decide)(sx:(x == ("__debug__" : Str))=false:=by decide)
  (he:starEach (e::es) X.env=(false,eval e X.env)::starEach es X.env:=by rfl) (ls:(backTo pos (starEach es X.env)).any (·.1)=false:=by rfl):PE X (.Call (.Name x p) (e::es) [] pos) (UP r t):=by
 intro ae s σ H Q I h;refine wpAny_Call_Name_kw (lx I hg hm hv ?_ hn sx);exact PyProof.Rows.callWith_type1 (cx (ha pos ae s σ H _ I h) λus s1 ⟨vs,H1,I1,r1,q1⟩=>hc ae s1 σ H1 vs us Q I1 r1 q1) he ls
end
end L2
namespace HT
open PySem PyProof.Rows
section
open PySem.SeqAt
open PySem.AutoSeq1 (wpAny_loadPart')
open PySem.MeetsSeq PySem.MeetsSeq2 PySem.MeetsSeq3
end
section
variable {prog:Program}{w:World}{A:Around}{E:Value->Shared->Prop}{s:Shared}
theorem HF (ht:IsTup s.heap t vs.toArray)(hb:IsTup s.heap b ws.toArray)(hv:vs≠[])
  (h1:ws=[]->Q (.ref t) s) (h2:ws≠[]->Q (.ref s.heap.objs.size) { s with heap:=s.heap.push { cls:=.type "tuple",data:=.seq (vs++ws).toArray } })
  (hsz:vs.length+ws.length<=sizeLine):wpAny (model prog w) A (binaryOp .Add (.ref t) (.ref b)) Q E s:=by
 obtain⟨⟨cls,dd,data,sl⟩,ho,hc,n,hd⟩:=id ht;obtain⟨⟨T5,NA,data2,RQ⟩,JN,Cu,n2,JP⟩:=id hb;simp only at hc hd Cu JP;subst hc hd Cu JP;have e:vs.toArray++ws.toArray=(vs++ws).toArray:=by simp
 by_cases hw:ws=[]
 ·exact concat_meets ⟨_,ho,rfl⟩ ⟨_,JN,rfl⟩ noFill_tuple_add seq_tuple_add PySem.F.slot_tuple_add PySem.F.entry_tuple_add (PySem.F.args_tuple_add_2 _ _)
   (tuple_addW1 t b vs.toArray ws.toArray n n2 dd NA sl RQ (by simpa using hv) (by simp[hw])) ⟨ho,JN,h1 hw⟩
 ·refine concat_meets ⟨_,ho,rfl⟩ ⟨_,JN,rfl⟩ noFill_tuple_add seq_tuple_add PySem.F.slot_tuple_add PySem.F.entry_tuple_add (PySem.F.args_tuple_add_2 _ _)
   (tuple_addW2 t b vs.toArray ws.toArray n n2 dd NA sl RQ (by simpa using hv) (by simpa using hw) (by rw[vH,vH];exact hsz)) ⟨ho,JN,?_⟩
  rw[e];exact h2 hw
noncomputable def dX (n d:Nat):Option Int->Nat
 |none=>d
 |some v=>if v<0 then (v+(n:Int)).toNat else min v.toNat n
theorem Mg (n d:Nat)(hd:d<=n)(o:Option Int):dX n d o<=n:=by
 cases o with
 |none=>exact hd
 |some v=>
  show(if v<0 then (v+(n:Int)).toNat else min v.toNat n)<=n;by_cases hv:v<0
  ·rw[if_pos hv];omega
  ·rw[if_neg hv];exact Nat.min_le_right _ _
theorem AV (v:Int)(n d:Nat):(if v<0 then max (v+(n:Int)) 0 else min v (n:Int))=((dX n d (some v):Nat):Int):=by
 show(if v<0 then max (v+(n:Int)) 0 else min v (n:Int))=(((if v<0 then (v+(n:Int)).toNat else min v.toNat n):Nat):Int);by_cases hv:v<0
 ·simp only[if_pos hv];omega
 ·simp only[if_neg hv];omega
theorem zM (lo hi:Option Int)(n:Nat):Builtin.Slice.sliceAdjust lo hi 1 (n:Int)=(((dX n 0 lo:Nat):Int),((dX n n hi:Nat):Int)):=by
 have h1:¬((1:Int)<0):=by omega
 unfold Builtin.Slice.sliceAdjust;simp only[h1,if_false];refine Prod.ext ?_ ?_
 ·cases lo with
  |none=>rfl
  |some v=>exact AV v n 0
 ·cases hi with
  |none=>rfl
  |some v=>exact AV v n n
theorem zN (i j:Nat):Builtin.Slice.slicePlaces (i:Int) (j:Int) 1=j - i:=by
 unfold Builtin.Slice.slicePlaces;have h1:(1:Int) > 0:=by omega
 simp only[h1,if_true,Int.ediv_one];split<;>omega
theorem p8 (p:IsPart v o)(h:Q o s):wpAny (model prog w) A (Builtin.Slice.slicePartIndex v) Q E s:=by
 cases p with
 |none=>exact slicePart_none h
 |int i t=>exact slicePart_int h
theorem ja {sl:Addr}{vl vu:Value}{lo hi:Option Int}{n:Nat}{Q:Int×Int×Nat->Shared->Prop}(hs:s.heap.IsSliceOf sl vl vu .none)(pl:IsPart vl lo)(pu:IsPart vu hi)
  (h:Q (((dX n 0 lo:Nat):Int),1,dX n n hi - dX n 0 lo) s):wpAny (model prog w) A (Builtin.Slice.sliceApplied (.ref sl) (pure (n:Int))) Q E s:=by
 obtain⟨os,JQ,wP,NB⟩:=id hs;unfold Builtin.Slice.sliceApplied Builtin.Slice.sliceFields;refine wX (wX (wpAny_field JQ NB (x:=vl) rfl (wX (wpAny_field JQ NB (x:=vu) rfl (wX (wpAny_field JQ NB (x:=.none) rfl (wY ?_)))))));refine wX (slicePart_none ?_);show wpAny _ _ (if((1:Int) == 0)=true then _ else _) _ _ s;rw[if_neg (by decide)];refine wX (p8 pl (wX (p8 pu (wX (wY ?_)))));show wpAny _ _ (match Builtin.Slice.sliceAdjust lo hi 1 (n:Int) with|(lo,hi)=>pure (lo,(1:Int),Builtin.Slice.slicePlaces lo hi 1)) _ _ s;rw[zM lo hi n];show wpAny _ _ (pure (((dX n 0 lo:Nat):Int),(1:Int),Builtin.Slice.slicePlaces ((dX n 0 lo:Nat):Int) ((dX n n hi:Nat):Int) 1)) _ _ s;rw[zN];exact wY h
theorem Ew (xs:Array Value)(i k:Nat):((List.range k).filterMap λ(m:Nat)=>xs[((i:Int)+(m:Int)*1).toNat]?).toArray=((xs.toList.drop i).take k).toArray:=by
 have e:(λ(m:Nat)=>xs[((i:Int)+(m:Int)*1).toNat]?)=λm=>xs[i+m]?:=by
  funext m;have:((i:Int)+(m:Int)*1).toNat=i+m:=by omega
  rw[this]
 rw[e];have:=pick_run xs i k;rw[List.filterMap_map]at this;have e2:((λx=>xs[x]?) ∘ λx=>i+x)=λm=>xs[i+m]?:=rfl;rw[e2]at this;rw[this]
theorem lP {t sl:Addr}{items:Array Value}{vl vu:Value}{lo hi:Option Int}{Q:Value->Shared->Prop}(ht:IsTup s.heap t items)(hs:s.heap.IsSliceOf sl vl vu .none)(pl:IsPart vl lo)(pu:IsPart vu hi)
  (hw:¬(dX items.size 0 lo=0/\dX items.size items.size hi=items.size))
  (h:Q (.ref s.heap.objs.size) { s with heap:=s.heap.push { cls:=.type "tuple",data:=.seq ((items.toList.drop (dX items.size 0 lo)).take (dX items.size items.size hi - dX items.size 0 lo)).toArray } })
  (hsz:items.size<=sizeLine):wpAny (model prog w) A (getItem (.ref t) (.ref sl)) Q E s:=by
 have Cv:sizeOk (.seq ((items.toList.drop (dX items.size 0 lo)).take (dX items.size items.size hi - dX items.size 0 lo)).toArray):=by
  show((items.toList.drop (dX items.size 0 lo)).take (dX items.size items.size hi - dX items.size 0 lo)).toArray.size<=sizeLine
  rw[vH,List.length_take,List.length_drop,vG]
  omega
 have hj:dX items.size items.size hi<=items.size:=Mg _ _ (vT _) hi
 obtain⟨os,JQ,wP,NB⟩:=id hs
 have X0:s.TypeIs (.ref sl) "slice":=⟨os,JQ,wP⟩
 unfold getItem
 try with_reducible refine wpAny_holding ?_
 first|refine wX (wY ?_)|skip
 refine wX (wpAny_sequenceKey ht.typeIs (by decide) ?_)
 refine wX (wpAny_callSpecial?_slot (name:=Str.ofString "__getitem__") ht.typeIs PyProof.Rows.slot_tuple_getitem
  (wpAny_call_entry PyProof.Rows.slot_tuple_getitem ht.typeIs entry_tuple_getitem ?_ (args_tuple_getitem _ _)))
 show wpAny _ _ (Builtin.Tuple.tupleItemsOf (.ref t)>>=_) _ _ s
 refine wX (tupleItemsOf_ ht ?_)
 refine wX (wpAny_typeOf X0 ?_)
 rw[if_pos (by decide)]
 refine wX (ja hs pl pu ?_)
 have O9:¬((((dX items.size 0 lo:Nat):Int) == 0 && (1:Int) == 1 && (dX items.size items.size hi - dX items.size 0 lo) == items.size)=true):=by
  intro q
  rw[vC,vC]at q
  have q1:((dX items.size 0 lo:Nat):Int)=0:=eq_of_beq q.1.1
  have q2:dX items.size items.size hi - dX items.size 0 lo=items.size:=eq_of_beq q.2
  exact hw ⟨by omega,by omega⟩
 show wpAny _ _ (if(((dX items.size 0 lo:Nat):Int) == 0 && (1:Int) == 1 && (dX items.size items.size hi - dX items.size 0 lo) == items.size)=true then _ else _) _ _ s
 rw[if_neg O9,Ew]
 first
  |exact wX (m:=Builtin.Tuple.tupleExact _) (wpAny_newObj_type (wY ⟨_,rfl,wY h⟩) Cv)
  |exact wX (m:=Builtin.Tuple.tupleExact _) (wpAny_newObj_type (wX (wY (wY ⟨_,rfl,wY h⟩))) Cv)
  |exact wX (wX (m:=Builtin.Tuple.tupleExact _) (wpAny_newObj_type (wY (wY ⟨_,rfl,wY h⟩)) Cv))
  |exact wX (wX (m:=Builtin.Tuple.tupleExact _) (wpAny_newObj_type (wY ⟨_,rfl,wY h⟩) Cv))
end
end HT
namespace L2
open PySem PySem.Spec PyProof.Rows
abbrev TO:=St->Hp->(Option Int->Hp->Prop)->Prop
def PO (X:Cx)(e:Option Expr)(t:TO):Prop :=
 ∀(ae:List (Addr×Obj))(s:Shared)(σ:St)(H:Hp)(Q:Option Int->Hp->Prop),Inv X ae σ H s->t σ H Q ->
  wq X (evalPart e X.env) (λu s'=>∃o H',Inv X ae σ H' s'/\IsPart u o/\Q o H') X.xe s
def HG:TO:=λ_ H Q=>Q none H
def Pu (t:TE):TO:=λσ H Q=>t σ H λx H1=>∃i,x=.int i/\Q (some i) H1
section
variable {X:Cx}{e:Expr}{te:TE}{lo hi:Option Expr}{tl th:TO}{pos p2:Pos}
theorem HH:PO X none HG:=by
 intro ae s σ H Q I h;rw[evalPart_none];exact wY ⟨none,H,I,.none,h⟩
theorem HI (h:PE X e te):PO X (some e) (Pu te):=by
 intro ae s σ H Q I hw;rw[evalPart_some];refine cx (h ae s σ H _ I hw) λu s1 ⟨x,H1,I1,r1,q1⟩=>?_;obtain⟨i,rfl,q⟩:=q1;obtain⟨t,rfl⟩:=r1;exact⟨some i,H1,I1,.int i t,q⟩
def Ed (X:Cx)(r:V->Option Int->Option Int->Hp->VK->Prop):Prop :=
 ∀(ae:List (Addr×Obj))(s:Shared)(σ:St)(H:Hp)(x:V)(v vl vu:Value)(lo hi:Option Int)(sl:Addr)(Q:VK),Inv X ae σ H s->aX x v->s.heap.IsSliceOf sl vl vu .none->IsPart vl lo->IsPart vu hi->r x lo hi H Q ->
  ∃T id,typeLookup (.type T) "__getitem__" = pure (some (.builtin id))/\s.TypeIs v T/\wq X (getItem v (.ref sl)) (EP X ae σ Q) X.xe s
theorem Ed.or (h:Ed X r)(h':Ed X r'):Ed X (λx lo hi H Q=>r x lo hi H Q∨r' x lo hi H Q):=by
 intro ae s σ H x v vl vu lo hi sl Q I rx hs pl pu q;rcases q with q|q
 ·exact h ae s σ H x v vl vu lo hi sl Q I rx hs pl pu q
 ·exact h' ae s σ H x v vl vu lo hi sl Q I rx hs pl pu q
def W8 (r:V->Option Int->Option Int->Hp->VK->Prop)(te:TE)(tl th:TO):TE:=λσ H Q=>te σ H λx H1=>tl σ H1 λl H2=>th σ H2 λu H3=>r x l u H3 Q
theorem Ex (hr:Ed X r)(he:PE X e te)(hl:PO X lo tl)(hu:PO X hi th):PE X (.Subscript e (.Slice lo hi none p2) pos) (W8 r te tl th):=by
 intro ae s σ H Q I h;refine Subscript_ (cx (he ae s σ H _ I h) λv s1 ⟨x,H1,I1,r1,q1⟩=>?_);refine wpAny_Slice (cx (hl ae s1 σ H1 _ I1 q1) λvl s2 ⟨l,H2,I2,pl,q2⟩=>cx (hu ae s2 σ H2 _ I2 q2) λvu s3 ⟨u,H3,I3,pu,q3⟩=>?_);rw[evalPart_none];refine wY ?_;have I4:Inv X ae σ H3 { s3 with heap:=s3.heap.push { cls:=.type "slice",data:=.fields #[vl,vu,.none] } }:=I3.kept (t':=s3.toks) λb ob q=>vZ _ q;obtain⟨T,id,hT,ht,hg⟩:=hr ae { s3 with heap:=s3.heap.push { cls:=.type "slice",data:=.fields #[vl,vu,.none] } } σ H3 x v vl vu l u s3.heap.objs.size Q I4 r1 (Heap.IsSliceOf.new ..) pl pu q3;show wq X (subscriptTail e (.Slice lo hi none p2) v (.ref s3.heap.objs.size)) (EP X ae σ Q) X.xe { s3 with heap:=s3.heap.push { cls:=.type "slice",data:=.fields #[vl,vu,.none] } };exact tail_any (ops:=[.ref s3.heap.objs.size,v]) ht hT hg (by with_unfolding_all rfl)
def rX (xs:List V)(lo hi:Option Int):List V:=(xs.drop (HT.dX xs.length 0 lo)).take (HT.dX xs.length xs.length hi - HT.dX xs.length 0 lo)
theorem nS (xs:List V)(lo hi:Option Int):(rX xs lo hi).length<=xs.length:=by
 unfold rX;rw[List.length_take,List.length_drop];omega
def S5 (K:Frag):V->Option Int->Option Int->Hp->VK->Prop:=λx lo hi H Q=>∃a xs,x=.ref a/\iZ K H a xs /\
 ¬(HT.dX xs.length 0 lo=0/\HT.dX xs.length xs.length hi=xs.length)/\∀p,H p=none->Q (.ref p) (upd H p (.tup (rX xs lo hi)))
theorem Mh:Ed X (S5 X.K):=by
 intro ae s σ H x v vl vu lo hi sl Q I rx hs pl pu h;obtain⟨a,xs,rfl,hx,hw,q⟩:=h;cases rx
 obtain⟨its,r,ht,hz⟩:=I.tuple hx;have bF:its.toArray.size=xs.length:=by rw[vH];exact r.length.symm
 refine⟨"tuple",_,PyProof.Rows.slot_tuple_getitem.lookup,ht.typeIs,?_⟩;refine HT.lP ht hs pl pu (by rw[bF];exact hw) ?_ (by rw[bF];exact hz);rw[bF];refine⟨.ref s.heap.objs.size,_,I.laid (t':=s.toks) (o:=.tup (rX xs lo hi)) (λb ob q=>vZ _ q) (vT _) ?_,rfl,q _ (I.hok.fresh (vT _))⟩;exact⟨vR (nS xs lo hi) hz,_,(r.drop (HT.dX xs.length 0 lo)).take (HT.dX xs.length xs.length hi - HT.dX xs.length 0 lo),IsTup.new _ _⟩
def Pw (K:Frag):R2:=λx y H Q=>∃a b xs ys,x=.ref a/\y=.ref b/\iZ K H a xs/\iZ K H b ys/\xs≠[]/\xs.length+ys.length<=sizeLine /\
 (ys=[]->Q (.ref a) H)/\(ys≠[]->∀p,H p=none->Q (.ref p) (upd H p (.tup (xs++ys))))
theorem aT.nil_iff (r:aT xs us):us=[]↔xs=[]:=by
 cases r with
 |nil=>simp
 |cons _ _=>simp
theorem HJ:dr X (binaryOp .Add) (Pw X.K):=by
 intro ae s σ H x y v u Q I rx ry h;obtain⟨a,b,xs,ys,rfl,rfl,ha,hb,hx,hz,q1,q2⟩:=h;cases rx
 cases ry
 obtain⟨its,r1,p1,_⟩:=I.tuple ha;obtain⟨Q3,r2,p2,_⟩:=I.tuple hb;refine HT.HF p1 p2 (λz=>hx (r1.nil_iff.mp z)) (λz=>⟨.ref a,H,I,rfl,q1 (r2.nil_iff.mp z)⟩) (λz=>?_) (by rw[←r1.length,←r2.length];exact hz);refine⟨.ref s.heap.objs.size,_,I.laid (t':=s.toks) (o:=.tup (xs++ys)) (λb ob q=>vZ _ q) (vT _) ?_,rfl,q2 (λw=>z (r2.nil_iff.mpr w)) _ (I.hok.fresh (vT _))⟩;exact⟨by rw[uZ];exact hz,_,r1.append r2,IsTup.new _ _⟩
end
def CG (n:Nat)(i:Int):Option Nat:=if 0<=i then (if i<n then some i.toNat else none)else if -(n:Int)<=i then some (i+n).toNat else none
def nU {α:Type}(xs:List α)(i:Int):Option α:=(CG xs.length i).bind λj=>xs[j]?
theorem AW (h:CG n i=some j):seqIndex? i n=some j/\j<n/\-(n:Int)<=i/\i<n:=by
 unfold CG at h;by_cases h0:0<=i
 ·rw[if_pos h0]at h;by_cases h1:i<n
  ·rw[if_pos h1]at h;have e:i.toNat=j:=vK h;exact⟨by rw[seqIndex_of h0 h1,e],by omega,by omega,h1⟩
  ·rw[if_neg h1]at h;cases h
 ·rw[if_neg h0]at h;by_cases h1 : -(n:Int)<=i
  ·rw[if_pos h1]at h;have e:(i+n).toNat=j:=vK h;exact⟨by rw[seqIndex_neg (by omega) h1,e],by omega,h1,by omega⟩
  ·rw[if_neg h1]at h;cases h
theorem uA {α:Type}{xs:List α}{i:Int}{v:α}(h:nU xs i=some v):∃j,seqIndex? i xs.length=some j/\xs[j]? = some v/\j<xs.length/\-(xs.length:Int)<=i/\i<xs.length:=by
 unfold nU at h;cases e:CG xs.length i with
 |none=>rw[e]at h;cases h
 |some j=>
  rw[e]at h;obtain⟨h1,h2,h3,h4⟩:=AW e;exact⟨j,h1,h,h2,h3,h4⟩
theorem HK {α:Type}{xs:List α}{j:Nat}{v:α}(h:xs[j]? = some v):nU xs (j:Int)=some v:=by
 have hj:j<xs.length:=(vV h).1;have e:CG xs.length (j:Int)=some j:=by
  unfold CG;rw[if_pos (by omega),if_pos (by omega)];simp
 unfold nU;rw[e];exact h
def uB (b:Expr):Prop:=∀o i,subscripted b false o i=operate [o,i] (getItem o i)
def Hd (X:Cx)(r:R2):Prop :=
 ∀(value slice:Expr)(ae:List (Addr×Obj))(s:Shared)(σ:St)(H:Hp)(x y:V)(v u:Value)(Q:VK),Inv X ae σ H s->aX x v->aX y u->r x y H Q ->
  subscripted slice false v u=operate [v,u] (getItem v u)->wq X (subscriptTail value slice v u) (EP X ae σ Q) X.xe s
def HL (X:Cx)(id:String)(r:V->List V->Hp->VK->Prop):Prop :=
 ∀(ae:List (Addr×Obj))(s:Shared)(σ:St)(H:Hp)(x:V)(xs:List V)(v:Value)(us:List Value)(Q:VK),Inv X ae σ H s->aX x v->aT xs us->r x xs H Q ->
  wq X (call (.builtin id) (v::us)) (EP X ae σ Q) X.xe s
section
variable {X:Cx}{a b:Expr}{ta tb:TE}{pos:Pos}
theorem Hd.or (h:Hd X r)(h':Hd X r'):Hd X (λx y H Q=>r x y H Q∨r' x y H Q):=by
 intro value slice ae s σ H x y v u Q I rx ry q hs;rcases q with q|q
 ·exact h value slice ae s σ H x y v u Q I rx ry q hs
 ·exact h' value slice ae s σ H x y v u Q I rx ry q hs
theorem HL.or {id:String}{r r':V->List V->Hp->VK->Prop}(h:HL X id r)(h':HL X id r'):HL X id (λx xs H Q=>r x xs H Q∨r' x xs H Q):=by
 intro ae s σ H x xs v us Q I rx rs q;rcases q with q|q
 ·exact h ae s σ H x xs v us Q I rx rs q
 ·exact h' ae s σ H x xs v us Q I rx rs q
theorem Ko (hr:Hd X r)(ha:PE X a ta)(hb:PE X b tb)(hs:uB b):PE X (.Subscript a b pos) (R7 r ta tb):=by
 intro ae s σ H Q I h;exact Subscript_ (LV ha hb I h λv u s2 x y H2 I2 rx ry q=>hr a b ae s2 σ H2 x y v u Q I2 rx ry q (hs _ _))
def S6 (K:Frag):R2:=λx y H Q=>∃p xs i v,x=.ref p/\y=.int i/\iA K H p xs/\nU xs i=some v/\Q v H
def S7 (K:Frag):R2:=λx y H Q=>∃p xs i v,x=.ref p/\y=.int i/\iZ K H p xs/\nU xs i=some v/\Q v H
def S8:R2:=λx y H Q=>∃z i c,x=.str z/\y=.int i/\z.length<=sizeLine/\nU z.cps.toList i=some c/\Q (.str ⟨#[c]⟩) H
theorem HM:Hd X (S6 X.K):=by
 intro value slice ae s σ H x y v u Q I rx ry h hs;obtain⟨p,xs,i,z,rfl,rfl,hq,he,q⟩:=h;cases rx
 obtain⟨t,rfl⟩:=ry;obtain⟨its,r,pl,hz⟩:=I.list hq;obtain⟨j,h1,h2,h3,h4,h5⟩:=uA he;obtain⟨w,ew,Q4⟩:=r.get h2;have hl:=r.length;have hn:=mT;have kX:EP X ae σ Q w s:=⟨z,H,I,Q4,q⟩;by_cases h0:0<=i
 ·have hj:i.toNat=j:=by
   rw[seqIndex_of h0 h5]at h1;exact vK h1
  exact item_listR pl.isList h0 (by omega) (by rw[hj];simpa using ew) kX hs
 ·have hj:(i+(its.toArray.size:Int)).toNat=j:=by
   rw[seqIndex_neg (by omega) h4]at h1;rw[vH,←hl];exact vK h1
  exact subscriptTail_builtinR (x:=w) pl.isList.typeIs slot_list_getitem.lookup
   (wpAny_getItem_list_neg (Q:=λr s'=>r=w/\EP X ae σ Q r s') pl.isList (by omega) (by rw[vH]<;>omega) (by omega) (by rw[hj];simpa using ew) ⟨rfl,kX⟩) hs
theorem zO:Hd X (S7 X.K):=by
 intro value slice ae s σ H x y v u Q I rx ry h hs;obtain⟨p,xs,i,z,rfl,rfl,hq,he,q⟩:=h;cases rx
 obtain⟨t,rfl⟩:=ry;obtain⟨its,r,pl,hz⟩:=I.tuple hq;obtain⟨j,h1,h2,h3,h4,h5⟩:=uA he;obtain⟨w,ew,Q4⟩:=r.get h2;have hl:=r.length;have hn:=mT;have kX:EP X ae σ Q w s:=⟨z,H,I,Q4,q⟩;exact subscriptTail_builtinR (x:=w) pl.typeIs slot_tuple_getitem.lookup
  (getItem_tuple (j:=j) (Q:=λr s'=>r=w/\EP X ae σ Q r s') pl (by omega) (by omega) (by rw[vH,←hl];exact h1) (by simpa using ew) ⟨rfl,kX⟩) hs
theorem zP:Hd X S8:=by
 intro value slice ae s σ H x y v u Q I rx ry h hs;obtain⟨z,i,c,rfl,rfl,hz,he,q⟩:=h;obtain⟨t,rfl⟩:=rx;obtain⟨t',rfl⟩:=ry;obtain⟨j,h1,h2,h3,h4,h5⟩:=uA he;have hl:z.cps.toList.length=z.length:=by simp[Str.length]
 rw[hl]at h1 h4 h5;have hn:=mT;exact tail_any (typeIs_str s z t) slot_str_getitem.lookup (getItem_str (c:=c) (by
  have e1:decide (i < -(2 ^ 63:Int))=false:=decide_eq_false (by omega);have e2:decide (i ≥ 2 ^ 63)=false:=decide_eq_false (by omega);rw[e1,e2,Bool.or_false]) (by rw[h1];simpa using h2) ⟨.str ⟨#[c]⟩,H,I.tok _,⟨_,rfl⟩,q⟩) hs
theorem zQ (its:List Value)(n j:Nat)(u:Value):Obj.mapSeq (·.setIfInBounds j u) { cls:=.type "list",data:=.seq its.toArray n }={ cls:=.type "list",data:=.seq (its.set j u).toArray n }:=by
 simp[Obj.mapSeq]
theorem Inv.lst (I:Inv X ae σ H s)(h:H p=some (.lst xs)):
  ∃(its:List Value)(n:Nat),aT xs its/\s.heap.get? p=some { cls:=.type "list",data:=.seq its.toArray n }/\xs.length<=sizeLine:=by
 obtain⟨z,its,n,r,e⟩:=I.hok p _ h;exact⟨its,n,r,e,z⟩
theorem Inv.lstUpd {ae:List (Addr×Obj)}{σ:St}{H:Hp}{s:Shared}{p:Addr}{xs ys:List V}{its its':List Value}{n n':Nat}{f:Obj->Obj}(I:Inv X ae σ H s)(h:H p=some (.lst xs))
  (ho:s.heap.get? p=some { cls:=.type "list",data:=.seq its.toArray n }) (hf:f { cls:=.type "list",data:=.seq its.toArray n }={ cls:=.type "list",data:=.seq its'.toArray n' }) (r:aT ys its') (hz:ys.length<=sizeLine) (t:Nat):
  Inv X ae σ (upd H p (.lst ys)) { s with heap:=s.heap.update p f,toks:=t }:=by
 have e:(s.heap.update p f).get? p=some { cls:=.type "list",data:=.seq its'.toArray n' }:=by
  rw[Heap.get?_update_self f ho (by rw[hf]<;>rfl),hf]
 refine I.write (x:=p) (e:=p) (by rw[h];trivial) (.inl rfl) (λb u hb q=>(Heap.get?_update_other _ _ (Ne.symm hb)).trans q) ⟨_,e⟩ ?_;exact⟨hz,its',n',r,e⟩
def Px:V->V->V->Hp->(Hp->Prop)->Prop:=λo i v H Q=>∃p xs k j,o=.ref p/\i=.int k/\H p=some (.lst xs)/\CG xs.length k=some j/\Q (upd H p (.lst (xs.set j v)))
theorem Ey:Pc X Px:=by
 intro ae s σ H o i v ov iv u Q I ro ri rv h;obtain⟨p,xs,k,j,rfl,rfl,hp,hj,q⟩:=h;cases ro
 obtain⟨t,rfl⟩:=ri;obtain⟨its,n,r,ho,hz⟩:=I.lst hp;obtain⟨h1,h2,h3,h4⟩:=AW hj;have hl:=r.length;have hn:=mT;have I':Inv X ae σ (upd H p (.lst (xs.set j v))) { s with heap:=s.heap.update p (Obj.mapSeq (·.setIfInBounds j u)) } :=
  I.lstUpd hp ho (zQ its n j u) (r.set rv j) (by rw[List.length_set];exact hz) s.toks
 by_cases h0:0<=k
 ·have hk:k.toNat=j:=by
   rw[seqIndex_of h0 h4]at h1;exact vK h1
  exact PySem.W.ki_setAt ho h0 (by omega) (by rw[vH,←hl];exact h4) (by rw[hk];exact⟨_,I',q⟩)
 ·have hk:(k+(its.toArray.size:Int)).toNat=j:=by
   rw[seqIndex_neg (by omega) h3]at h1;rw[vH,←hl];exact vK h1
  exact PySem.W.ki_setBack ho (by omega) (by rw[vH,←hl];exact h3) (by omega) (by rw[hk];exact⟨_,I',q⟩)
theorem uC (lo hi:Option Int)(n:Nat):(sliceBounds lo hi none n).1=((HT.dX n 0 lo:Nat):Int)/\(sliceBounds lo hi none n).2.1=((HT.dX n n hi:Nat):Int)/\(sliceBounds lo hi none n).2.2=1:=by
 refine⟨?_,?_,rfl⟩
 ·cases lo with
  |none=>simp[sliceBounds,HT.dX]
  |some i=>
   simp only[sliceBounds,HT.dX,Option.getD_none,show(1:Int) > 0 by decide,if_true];by_cases h:i<0
   ·simp only[h,if_true]<;>omega
   ·simp only[h,if_false]<;>omega
 ·cases hi with
  |none=>simp[sliceBounds,HT.dX]
  |some i=>
   simp only[sliceBounds,HT.dX,Option.getD_none,show(1:Int) > 0 by decide,if_true];by_cases h:i<0
   ·simp only[h,if_true]<;>omega
   ·simp only[h,if_false]<;>omega
theorem rY (its:List Value)(lo hi:Option Int):slicePick its.toArray lo hi none=((its.drop (HT.dX its.length 0 lo)).take (HT.dX its.length its.length hi - HT.dX its.length 0 lo)).toArray:=by
 obtain⟨h1,h2,h3⟩:=uC lo hi its.toArray.size;unfold slicePick;rw[h1,h2,h3];simp only[sliceRange_one,pick_run,vH]<;>rfl
def S9 (K:Frag):V->Option Int->Option Int->Hp->VK->Prop:=λx lo hi H Q=>∃a xs,x=.ref a/\iA K H a xs/\∀p,H p=none->Q (.ref p) (upd H p (.lst (rX xs lo hi)))
theorem HN:Ed X (S9 X.K):=by
 intro ae s σ H x v vl vu lo hi sl Q I rx hs pl pu h;obtain⟨a,xs,rfl,hx,q⟩:=h;cases rx
 obtain⟨its,r,ht,hz⟩:=I.list hx;have bF:=r.length;refine⟨"list",_,slot_list_getitem.lookup,ht.isList.typeIs,?_⟩;refine wpAny_getItem_list_slice ht.isList hs pl pu .none (by simp) ?_ (by rw[vH]<;>omega)
 rw[rY,←bF];refine⟨.ref s.heap.objs.size,_,I.laid (t':=s.toks) (o:=.lst (rX xs lo hi)) (λb ob q=>vZ _ q) (vT _) ?_,rfl,q _ (I.hok.fresh (vT _))⟩;exact⟨vR (nS xs lo hi) hz,_,0,(r.drop (HT.dX xs.length 0 lo)).take (HT.dX xs.length xs.length hi - HT.dX xs.length 0 lo),vY _ rfl⟩
noncomputable def kZ:V->Bool
 |.non=>true
 |.bl _=>true
 |.int _=>true
 |.str _=>true
 |_=>false
def He:V->V->Bool
 |.non,.non=>true
 |.bl a,.bl b=>a == b
 |.bl a,.int b=>(if a then 1 else 0) == b
 |.int a,.bl b=>a == (if b then 1 else 0)
 |.int a,.int b=>a == b
 |.str a,.str b=>a == b
 |_,_=>false
theorem Mi (ry:aX y u)(rx:aX x v)(fy:kZ y=true)(fx:kZ x=true):SeqAt.EqAt A s u v (He y x):=by
 cases y with
 |non=>
  cases ry
  cases x with
  |non=>cases rx;exact SeqAt.EqAt.same _
  |bl b=>cases rx;exact SeqAt.EqAt.none_bool b
  |int b=>obtain⟨t,rfl⟩:=rx;exact SeqAt.EqAt.none_int b t
  |str b=>obtain⟨t,rfl⟩:=rx;exact SeqAt.EqAt.none_str b t
  |_=>exact absurd (show false=true from fx) uX
 |bl a=>
  cases ry
  cases x with
  |non=>cases rx;exact SeqAt.EqAt.bool_none a
  |bl b=>cases rx;exact SeqAt.EqAt.bool_bool a b
  |int b=>obtain⟨t,rfl⟩:=rx;exact SeqAt.EqAt.bool_int a b t
  |str b=>obtain⟨t,rfl⟩:=rx;exact SeqAt.EqAt.bool_str a b t
  |_=>exact absurd (show false=true from fx) uX
 |int a=>
  obtain⟨t',rfl⟩:=ry;cases x with
  |non=>cases rx;exact SeqAt.EqAt.int_none a t'
  |bl b=>cases rx;exact SeqAt.EqAt.int_bool a t' b
  |int b=>obtain⟨t,rfl⟩:=rx;exact SeqAt.EqAt.int_int a t' b t
  |str b=>obtain⟨t,rfl⟩:=rx;exact SeqAt.EqAt.int_str a t' b t
  |_=>exact absurd (show false=true from fx) uX
 |str a=>
  obtain⟨t',rfl⟩:=ry;cases x with
  |non=>cases rx;exact SeqAt.EqAt.str_none a t'
  |bl b=>cases rx;exact SeqAt.EqAt.str_bool a t' b
  |int b=>obtain⟨t,rfl⟩:=rx;exact SeqAt.EqAt.str_int a t' b t
  |str b=>obtain⟨t,rfl⟩:=rx;exact SeqAt.EqAt.str_str a t' b t
  |_=>exact absurd (show false=true from fx) uX
 |_=>exact absurd (show false=true from fy) uX
def zR (x:V)(u:Value):Bool:=match u with
 |.none=>He .non x
 |.bool b=>He (.bl b) x
 |.int i _=>He (.int i) x
 |.str z _=>He (.str z) x
 |_=>false
theorem Ez (r:aX y u)(f:kZ y=true):zR x u=He y x:=by
 cases y with
 |non=>cases r;rfl
 |bl b=>cases r;rfl
 |int i=>obtain⟨t,rfl⟩:=r;rfl
 |str z=>obtain⟨t,rfl⟩:=r;rfl
 |_=>exact absurd (show false=true from f) uX
theorem lQ:∀ {xs:List V}{us:List Value},aT xs us->xs.all kZ=true->us.any (zR x)=xs.any λy=>He y x
 |_,_,.nil,_=>rfl
 |y::xs,u::us,.cons r t,f=>by
  rw[List.all_cons,vC]at f;rw[List.any_cons,List.any_cons,Ez r f.1,lQ t f.2]
theorem jS (rx:aX x v)(fx:kZ x=true):∀ {xs:List V}{us:List Value},aT xs us->xs.all kZ=true->∀u∈us,SeqAt.EqAt A s u v (zR x u)
 |_,_,.nil,_=>λu hu=>by cases hu
 |y::xs,u::us,.cons r t,f=>λu' hu=>by
  rw[List.all_cons,vC]at f;rcases vP hu with rfl|hu
  ·rw[Ez r f.1];exact Mi r rx f.1 fx
  ·exact jS rx fx t f.2 u' hu
noncomputable def R8 (x:V)(xs:List V):Bool:=xs.any λy=>He y x
def UQ (K:Frag)(X1:Bool):R2:=λx y H Q=>∃p xs,y=.ref p/\(iA K H p xs∨iZ K H p xs)/\kZ x=true/\xs.all kZ=true/\Q (.bl (if X1 then !R8 x xs else R8 x xs)) H
theorem CH:dr X (compareOp .In) (UQ X.K false):=by
 intro ae s σ H x y v u Q I rx ry h;obtain⟨p,xs,rfl,hq,fx,fs,q⟩:=h;cases ry
 rcases hq with hq|hq
 ·obtain⟨its,r,pl,hz⟩:=I.list hq;refine SeqAt.in_listAt (zR x) pl.isList (λw hw=>jS rx fx r fs w (by simpa using hw)) ⟨.bl _,H,I,rfl,?_⟩;rw[show its.toArray.any (zR x)=its.any (zR x) by simp,lQ r fs];exact q
 ·obtain⟨its,r,pl,hz⟩:=I.tuple hq;refine SeqAt.in_tupleAt (zR x) pl (λw hw=>jS rx fx r fs w (by simpa using hw)) ⟨.bl _,H,I,rfl,?_⟩;rw[show its.toArray.any (zR x)=its.any (zR x) by simp,lQ r fs];exact q
theorem uE:dr X (compareOp .NotIn) (UQ X.K true):=by
 intro ae s σ H x y v u Q I rx ry h;obtain⟨p,xs,rfl,hq,fx,fs,q⟩:=h;cases ry
 rcases hq with hq|hq
 ·obtain⟨its,r,pl,hz⟩:=I.list hq;refine SeqAt.notIn_listAt (zR x) pl.isList (λw hw=>jS rx fx r fs w (by simpa using hw)) ⟨.bl _,H,I,rfl,?_⟩;rw[show its.toArray.any (zR x)=its.any (zR x) by simp,lQ r fs];exact q
 ·obtain⟨its,r,pl,hz⟩:=I.tuple hq;refine SeqAt.notIn_tupleAt (zR x) pl (λw hw=>jS rx fx r fs w (by simpa using hw)) ⟨.bl _,H,I,rfl,?_⟩;rw[show its.toArray.any (zR x)=its.any (zR x) by simp,lQ r fs];exact q
theorem uF:bQ X (.builtin "len") (λxs H Q=>∃p ys,xs=[.ref p]/\(iA X.K H p ys∨iZ X.K H p ys)/\Q (.int ys.length) H):=by
 intro ae s σ H xs us Q I r h;obtain⟨p,ys,rfl,hq,q⟩:=h;obtain⟨u,rfl,rx⟩:=gP r;cases rx
 have hn:=mT;rcases hq with hq|hq
 ·obtain⟨its,r',pl,hz⟩:=I.list hq;have bF:=r'.length;exact Calls.call_len_list pl.isList (by simp only[vH]<;>omega) ⟨.int ys.length,H,I.tok _,⟨s.toks+1,by rw[vH,bF]⟩,q⟩
 ·obtain⟨its,r',pl,hz⟩:=I.tuple hq;have bF:=r'.length;exact len_tuple pl (by simp only[vH]<;>omega) ⟨.int ys.length,H,I.tok _,⟨s.toks+1,by rw[vH,bF]⟩,q⟩
theorem uG:bQ X (.builtin "len") (λxs H Q=>∃z,xs=[.str z]/\z.length<=sizeLine/\Q (.int z.length) H):=by
 intro ae s σ H xs us Q I r h;obtain⟨z,rfl,hz,q⟩:=h;obtain⟨u,rfl,t,rfl⟩:=gP r;have hn:=mT;exact len_str (by omega) ⟨.int z.length,H,I.tok _,⟨_,rfl⟩,q⟩
theorem bQ.or (h:bQ X f r)(h':bQ X f r'):bQ X f (λxs H Q=>r xs H Q∨r' xs H Q):=by
 intro ae s σ H xs us Q I rs q;rcases q with q|q
 ·exact h ae s σ H xs us Q I rs q
 ·exact h' ae s σ H xs us Q I rs q
theorem uH:bQ X (.type "list") (λxs H Q=>∃p ys,xs=[.ref p]/\(iA X.K H p ys∨iZ X.K H p ys)/\∀l,H l=none->Q (.ref l) (upd H l (.lst ys))):=by
 intro ae s σ H xs us Q I r h;obtain⟨p,ys,rfl,hq,q⟩:=h;obtain⟨u,rfl,rx⟩:=gP r;cases rx
 have kX:∀(its:List Value),aT ys its->ys.length<=sizeLine->∀(h':Heap)(c':Nat),(∀b o',s.heap.get? b=some o'->h'.get? b=some o') ->
   h'.get? s.heap.objs.size=some { cls:=.type "list",dict:=none,data:=.seq its.toArray c',slots:=#[] }->EP X ae σ Q (.ref s.heap.objs.size) { s with heap:=h' }:=λits r' hz h' c' kp e=>
  ⟨.ref s.heap.objs.size,_,I.laid (t':=s.toks) kp (vT _) (show ce X.prog X.w _ h' _ (.lst ys)from ⟨hz,its,c',r',e⟩),rfl,q _ (I.hok.fresh (vT _))⟩
 rcases hq with hq|hq
 ·obtain⟨its,r',pl,hz⟩:=I.list hq;have bF:=r'.length;obtain⟨o,ho,hc,n,hd⟩:=pl.isList;exact call_list_seq p (.inl rfl) ho hc hd (λh' c' kp e=>kX its r' hz h' c' kp e) (by simp only[vH]<;>omega)
 ·obtain⟨its,r',pl,hz⟩:=I.tuple hq;have bF:=r'.length;obtain⟨o,ho,hc,n,hd⟩:=pl;exact call_list_seq p (.inr rfl) ho hc hd (λh' c' kp e=>kX its r' hz h' c' kp e) (by simp only[vH]<;>omega)
theorem rZ:bQ X (.type "tuple") (λxs H Q=>∃p ys,xs=[.ref p]/\((iA X.K H p ys/\∀l,H l=none->Q (.ref l) (upd H l (.tup ys)))∨(iZ X.K H p ys/\Q (.ref p) H))):=by
 intro ae s σ H xs us Q I r h;obtain⟨p,ys,rfl,h⟩:=h;obtain⟨u,rfl,rx⟩:=gP r;cases rx
 rcases h with⟨hq,q⟩|⟨hq,q⟩
 ·obtain⟨its,r',pl,hz⟩:=I.list hq;have bF:=r'.length;refine call_tuple_list pl.isList (λh' kp=>?_) (by simp only[vH]<;>omega)
  have I1:Inv X ae σ H { s with heap:=h' }:=I.kept (t':=s.toks) kp;have I2:Inv X ae σ (upd H h'.objs.size (.tup ys)) { s with heap:=h'.push { cls:=.type "tuple",data:=.seq its.toArray } } :=
   I1.laid (t':=s.toks) (λb o e=>vZ _ e) (vT _) (show ce X.prog X.w _ _ _ (.tup ys)from ⟨hz,its,r',IsTup.new _ _⟩)
  exact⟨.ref h'.objs.size,_,I2,rfl,q _ (I1.hok.fresh (vT _))⟩
 ·obtain⟨its,r',pl,hz⟩:=I.tuple hq;exact call_tuple_same pl ⟨.ref p,H,I,rfl,q⟩
def UR (K:Frag)(T:String)(x:V)(H:Hp):Prop:=match x with
 |.str _=>T = "str"
 |.int _=>T = "int"
 |.ref p=>(T = "list"/\∃xs,iA K H p xs)∨(T = "tuple"/\∃o,K.lookup p=some o/\o.cls=.type "tuple"/\o.dict=none) ∨
   (T = "dict"/\((∃aI ob,H p=some (.dK aI ob))∨∃aI,H p=some (.dT aI)))∨(T = "set"/\∃S n,H p=some (.set S n))
 |_=>False
theorem zS (I:Inv X ae σ H s)(r:aX x v)(ty:UR X.K T x H):
  s.TypeIs v T/\∀a,v=.ref a->∃ob,s.heap.get? a=some ob/\ob.dict=none:=by
 cases x with
 |str z=>
  obtain⟨t,rfl⟩:=r;cases (show T = "str" from ty)
  exact⟨typeIs_str s z t,λ_ e=>nomatch e⟩
 |int i=>
  obtain⟨t,rfl⟩:=r;cases (show T = "int" from ty)
  exact⟨typeIs_int s i t,λ_ e=>nomatch e⟩
 |ref p=>
  cases r
  rcases ty with⟨rfl,xs,hq⟩|⟨rfl,o,hk,hc,hd⟩|⟨rfl,hk⟩|⟨rfl,S,n,hk⟩
  ·obtain⟨its,_,pl,_⟩:=I.list hq;refine⟨pl.isList.typeIs,λa e=>?_⟩;cases e
   obtain⟨o,n,e,c,hd,_⟩:=pl;exact⟨o,e,hd⟩
  ·refine⟨⟨o,I.kIn p o hk,hc⟩,λa e=>?_⟩;cases e
   exact⟨o,I.kIn _ o hk,hd⟩
  ·have z:∃o,s.heap.get? p=some o/\o.ExactDict:=by
    rcases hk with⟨aI,Vu,hk⟩|⟨aI,hk⟩
    ·obtain⟨_,_,_,_,_,o,_,_,e,ex,_⟩:=I.hok p _ hk;exact⟨o,e,ex⟩
    ·obtain⟨_,_,_,_,o,_,_,e,ex,_⟩:=I.hok p _ hk;exact⟨o,e,ex⟩
   obtain⟨o,e,ex⟩:=z;refine⟨⟨o,e,ex.1⟩,λa e2=>?_⟩;cases e2
   exact⟨o,e,ex.2.1⟩
  ·obtain⟨o,_,_,_,e,ex,_⟩:=I.hok p _ hk;refine⟨⟨o,e,ex.1⟩,λa e2=>?_⟩;cases e2
   exact⟨o,e,ex.2.1⟩
 |_=>exact False.elim ty
def W9 (K:Frag)(T:String)(r:V->List V->Hp->VK->Prop)(to:TE)(t:TA):TE:=λσ H Q=>to σ H λx H1=>UR K T x H1/\t σ H1 λxs H2=>r x xs H2 Q
variable {o e:Expr}{es:List Expr}{to:TE}{t:TA}{name:Str}{dw cA:Pos}{T id:String}{r:V->List V->Hp->VK->Prop}
theorem E1 (pa:PlainAttrs T)(slot:Slot T name id)(Lp:typeOf (.builtin id)=pure (.type "method_descriptor"))(hm:HL X id r)(ho:PE X o to)(ha:PA X (e::es) t)
  (iw:attributeBase o name X.env (eval o X.env)=eval o X.env:=by rfl)
  (AO:((backTo cA (starEach (e::es) X.env)).all (λx=>!x.1) && (backToKw cA (keywordEach [] X.env)).all (λx=>x.1.isSome)
   && decide ((e::es).length+([]:List Keyword).length+(if([]:List Keyword).isEmpty then 0 else 1)<30))=true:=by rfl)
  (iz:(dw.endLine == cA.line)=true:=by rfl) (hs:starEach (e::es) X.env=(false,eval e X.env)::starEach es X.env:=by rfl) (NC:(backTo cA (starEach es X.env)).any (·.1)=false:=by rfl):
  PE X (.Call (.Attribute o name dw) (e::es) [] cA) (W9 X.K T r to t):=by
 intro ae s σ H Q I h;refine wpAny_Call_method_late iw AO iz rfl (cx (ho ae s σ H _ I h) λv s1 ⟨x,H1,I1,r1,ty,q1⟩=>?_);obtain⟨h1,h2⟩:=zS I1 r1 ty;refine⟨T,id,pa,slot,Lp,h1,h2,?_⟩;have hA:=ha cA ae s1 σ H1 _ I1 q1;rw[hs]at hA ⊢;refine Calls.callWith_builtin (by show(false || (backTo cA (starEach es X.env)).any (·.1))=false;rw[NC]<;>rfl) (Calls.evalArgs_plain ?_)
 exact cx hA λus s2 ⟨vs,H2,I2,r2,q2⟩=>hm ae s2 σ H2 x vs v us Q I2 r1 r2 q2
/- xs.append(e),list.index on a module's tuple .. are HL facts of 06m -/
end
def WA (X:Cx)(id:String)(r:V->List V->Hp->VK->Prop):Prop :=
 ∀(ae:List (Addr×Obj))(s:Shared)(σ:St)(H:Hp)(x:V)(xs:List V)(v:Value)(us:List Value)(Q:VK),Inv X ae σ H s->aX x v->aT xs us->r x xs H Q ->
  wq X (call (.builtin id) (v::us)) (EP X ae σ Q) X.xe s
theorem aT.one:∀ {x:V}{us:List Value},aT [x] us->∃u,us=[u]/\aX x u
 |_,_,.cons r .nil=>⟨_,rfl,r⟩
theorem aT.two:∀ {x y:V}{us:List Value},aT [x,y] us->∃u v,us=[u,v]/\aX x u/\aX y v
 |_,_,_,.cons r (.cons q .nil)=>⟨_,_,rfl,r,q⟩
theorem aT.eraseIdx:∀ {xs:List V}{us:List Value}(i:Nat),aT xs us->aT (xs.eraseIdx i) (us.eraseIdx i)
 |_,_,_,.nil=>.nil
 |_,_,0,.cons _ t=>t
 |_,_,i+1,.cons r t=>.cons r (aT.eraseIdx i t)
theorem aT.rep (h:aT xs us):∀k:Nat,aT (List.replicate k xs).flatten (List.replicate k us).flatten
 |0=>.nil
 |k+1=>by
  rw[List.replicate_succ,List.replicate_succ,List.flatten_cons,List.flatten_cons];exact aT.append h (aT.rep h k)
theorem sM (its:List Value):∀(k:Nat)(kY:List Value),
  List.foldl (λx1 x2=>x1++x2) kY.toArray (List.replicate k its.toArray)=(kY++(List.replicate k its).flatten).toArray
 |0,kY=>by simp
 |k+1,kY=>by
  have e:kY.toArray++its.toArray=(kY++its).toArray:=by simp
  have e2:(kY++its)++(List.replicate k its).flatten=kY++(List.replicate (k+1) its).flatten:=by
   rw[List.replicate_succ,List.flatten_cons,List.append_assoc]
  rw[←e2,←sM its k (kY++its),←e,List.replicate_succ,List.foldl_cons]
section
variable {X:Cx}{ae:List (Addr×Obj)}{σ:St}{H:Hp}{s:Shared}{l b:Addr}{xs ys zs:List V}
theorem Inv.lset {its its':List Value}{n:Nat}{f:Array Value->Array Value}{t':Nat}(I:Inv X ae σ H s)(hH:H l=some (.lst xs))
  (e:s.heap.get? l=some { cls:=.type "list",data:=.seq its.toArray n }) (hf:f its.toArray=its'.toArray) (hv:aT ys its') (hz:ys.length<=sizeLine):
  Inv X ae σ (upd H l (.lst ys)) { s with heap:=s.heap.update l (Obj.mapSeq f),toks:=t' }:=by
 have q:=PySem.IsL.update e f;rw[hf]at q;refine I.write (x:=l) (e:=l) (by rw[hH];exact trivial) (.inl rfl) (λb' u hb hu=>(Heap.get?_update_other s.heap (Obj.mapSeq f) (Ne.symm hb)).trans hu) ⟨_,q⟩ ?_;exact⟨hz,its',_,hv,q⟩
theorem Inv.lnew (I:Inv X ae σ H s)(hv:aT ys its)(hz:ys.length<=sizeLine):
  Inv X ae σ (upd H s.heap.objs.size (.lst ys)) { s with heap:=s.heap.push { cls:=.type "list",data:=.seq its.toArray },toks:=t' } :=
 I.laid (λ_ _ q=>vZ _ q) (vT _) ⟨hz,its,0,hv,vY _ rfl⟩
theorem Inv.fresh (I:Inv X ae σ H s):H s.heap.objs.size=none:=I.hok.fresh (vT _)
theorem Inv.lstM (I:Inv X ae σ H s)(hH:H l=some (.lst xs)):xs.length<=sizeLine/\∃(its:List Value)(n:Nat),aT xs its/\xs.length=its.length/\s.heap.get? l=some { cls:=.type "list",data:=.seq its.toArray n }:=by
 obtain⟨z,its,n,r,e⟩:=I.hok l _ hH;exact⟨z,its,n,r,r.length,e⟩
theorem E2 (h:n<=sizeLine):Builtin.List.listTooLong n=false:=by
 unfold Builtin.List.listTooLong;exact decide_eq_false (by omega)
end
section
variable {X:Cx}
def AX:V->List V->Hp->VK->Prop:=λx vs H Q=>∃l xs y,x=.ref l/\vs=[y]/\H l=some (.lst xs)/\xs.length<sizeLine/\Q .non (upd H l (.lst (xs++[y])))
theorem sO:WA X "list.append" AX:=by
 intro ae s σ H x vs v us Q I rx rv h;obtain⟨l,xs,y,rfl,rfl,hH,hz,q⟩:=h;cases rx
 obtain⟨u,rfl,ru⟩:=rv.one;obtain⟨z,its,n,r,hl,e⟩:=I.lstM hH;refine call_meets F.slot_list_append ⟨_,e,rfl⟩ F.entry_list_append (F.args_list_append_2 _ _) (PySem.list_append l its.toArray n u (by rw[vH];omega)) ⟨e,?_⟩;refine⟨.non,_,I.lset (its':=its++[u]) hH e (by simp) (r.append (.cons ru .nil)) ?_,rfl,q⟩;rw[uZ,List.length_singleton];omega
def SA:R2:=λx y H Q=>∃l k xs,x=.ref l/\y=.int k/\H l=some (.lst xs)/\-(2 ^ 63)<=k/\k<2 ^ 63/\xs.length*k.toNat<=sizeLine /\
 ∀p,H p=none->Q (.ref p) (upd H p (.lst (List.replicate k.toNat xs).flatten))
theorem HP {α:Type}(xs:List α)(k:Nat):(List.replicate k xs).flatten.length=k*xs.length:=by
 induction k with
 |zero=>simp
 |succ k ih=>rw[List.replicate_succ,List.flatten_cons,uZ,ih,Nat.succ_mul,Nat.add_comm]
theorem Mj:dr X (binaryOp .Mult) SA:=by
 intro ae s σ H x y v u Q I rx ry h;obtain⟨l,k,xs,rfl,rfl,hH,h1,h2,hz,q⟩:=h;cases rx
 obtain⟨t,rfl⟩:=ry;obtain⟨z,its,n,r,hl,e⟩:=I.lstM hH;have bF:its.toArray.size*k.toNat<=sizeLine:=by rw[vH,←hl];exact hz
 have T6:¬its.toArray.size*k.toNat > (2 ^ 63 - 1) / 8:=by
  have:(sizeLine:Nat)<=(2 ^ 63 - 1) / 8:=by decide
  omega
 have T7:¬(!Builtin.List.listFitsIndex k)=true:=by
  rw[fitsIndex_both h1 h2];exact uX
 have Q5:¬Builtin.List.listTooLong (its.toArray.size*k.toNat)=true:=by
  rw[E2 bF];exact uX
 have T8:List.foldl (λx1 x2=>x1++x2) #[] (List.replicate (if its.toArray.isEmpty=true then 0 else k.toNat) its.toArray)=(List.replicate k.toNat its).flatten.toArray:=by
  have f0:∀m:Nat,List.foldl (λx1 x2=>x1++x2) #[] (List.replicate m its.toArray)=(List.replicate m its).flatten.toArray:=λm=>by
   have:=sM its m [];rw[List.nil_append]at this;exact this
  rw[f0];cases its with
  |nil=>simp
  |cons a r'=>rw[if_neg (by simp)]
 refine wpAny_binaryOp_repeat_ref (T:="list") (U:="int") (by decide) ⟨_,e,rfl⟩ (λs'=>typeIs_int s' k t) noFill_list_mul F.fills_int_mul F.slot_int_rmul repeat_list F.slot_int_index.lookup
  (call_meets F.slot_int_rmul (typeIs_int s k t) F.entry_int_rmul (F.args_int_rmul_2 _ _) (int___rmul___int_list k t l its.toArray n)
   ⟨e,rfl,⟨_,e,rfl⟩,call_meets F.slot_list_mul ⟨_,e,rfl⟩ F.entry_list_mul (F.args_list_mul_2 _ _) (AutoListH.list___mul___list_int_3 l its.toArray n k t T7 T6 Q5) ⟨e,?_⟩⟩)
 rw[T8];exact⟨.ref _,_,I.lnew (t':=s.toks) (r.rep k.toNat) (by rw[HP,Nat.mul_comm];exact hz),rfl,q _ I.fresh⟩
end
end L2
namespace Att
open PySem PySem.W PySem.Calls PyProof.Rows
theorem oG:∀(ns:List Int)(vs:List Value),WellAll P h vs (ns.map WData.int)->IntsAre vs ns:=by
 intro ns;induction ns with
 |nil=>
  intro vs w;rw[List.map_nil]at w;cases w
  exact .nil
 |cons n ns ih=>
  intro vs w;rw[uY]at w;cases w with
  |cons a b=>
   cases a
   exact .cons _ _ (ih _ b)
theorem CJ {l:OpenLaw}{n:Nat}(hn:l.most=some n){P:Params}{h:Heap}{args:List WData}{vals:List Value}
  (JR:l.row.toRowW.claim.pre args=true) (T9:WellAll P h vals args):
  ∃a vs ns,vals=[Value.ref a]/\args=[WData.list (ns.map WData.int)]/\h.get? a=some { cls:=.type "list",data:=.seq vs.toArray }/\IntsAre vs ns/\ns.length<=n:=by
 have TB:WShape.hasAll [] args [.list .int]=true:=(pre_splitW JR).1;have hc:l.pre.holds [] { args:=args }=true:=(pre_splitW JR).2;obtain⟨d,r,rfl,h1,h2⟩:=hasAllW_cons TB;obtain rfl:=hasAllW_nil h2;obtain⟨xs,rfl,h3⟩:=hasW_list h1;obtain⟨ns,rfl⟩:=items_int h3;have bF:ns.length<=n:=by
  unfold OpenLaw.pre at hc;have h4:(WTm.not (.lt (.lit (.int (n:Int))) (.len (.arg 0)))).holds [] { args:=[.list (ns.map .int)] }=true:=by
   have h4:=(holds_andW hc).1;rw[hn]at h4;exact h4
  have h5:=condW_of h4 (w_not (w_lt w_lit (w_len_list (w_arg rfl))));rw[vI]at h5;refine Nat.le_of_not_lt λq=>?_;have q':(n:Int)<((ns.length:Nat):Int):=by omega
  first
   | (rw[decide_eq_true q']at h5;exact absurd h5 (by decide))
   | (simp at h5;omega)
 cases T9 with
 |cons w1 w2=>
  cases w2
  cases w1 with
  |list ho mO=>exact⟨_,_,ns,rfl,rfl,ho,oG ns _ mO,bF⟩
theorem CK (l:OpenLaw)(args:List WData):l.row.toRowW.claim.post args (.bool true) args=true :=
 postW_of (r:=l.row.toRowW) (X:=(true == true))
  (show WShape.has [] (.bool true) .bool=true by first|rfl|decide|simp[WShape.has,WShape.arms,WShape.armsAll])
  (show(WTm.eq .res (.lit (.bool true))).value [] { args:=args,res:=some (.bool true),after:=args }=some (.bool (true == true))from w_eq_bool (w_res rfl) w_lit) rfl
theorem xf {l:OpenLaw}{n:Nat}{q:Program}{Cw:List Str}{XP:(Str->Option Value)->Heap->Prop}{YP:World->Heap->Prop}{d:DefRec}
  (hn:l.most=some n) (Q6:d.params.defaults=[])
  (call:∀(w:World)(s₀ s₁:Shared)(mg mb:Str->Option Value)(fa:Addr)(o:Obj)(pm cd doc:Value)(a:Addr)(vs:List Value)(ns:List Int),
   Ground q Cw [] XP w s₀ mg mb s₁.heap->YP w s₁.heap ->
   s₁.heap.get? fa=some o->o.data=.func (docDef d.name d.params d.body d.scope pm cd doc)->s₁.heap.CodeRec cd d.name->mg d.name=some (.ref fa) ->
   s₁.heap.get? a=some { cls:=.type "list",data:=.seq vs.toArray }->IntsAre vs ns->ns.length<=n->s₁.gens=#[] ->
   codeAny (model l.prog w) callerA (.call (.ref fa) ⟨[.ref a],[]⟩) (λr s'=>r=.ok (.ret (.bool true))/\OldK s₁.heap s'.heap/\s'.os=s₁.os/\AllBare s'.gens) s₁):
  WalkO q Cw XP YP l.row.toRowW d [] (λf vs=>PySem.call f vs):=by
 intro w s₀ s₁ mg mb G Y fa o pm cd doc dV kV ho hd jv hD hmg hg args vals as JR hlay hrd T9 hlo;obtain rfl:dV=.none:=Dflts.none hD Q6;obtain rfl:kV=.none:=Dflts.noKw hD;obtain⟨a,vs,ns,rfl,rfl,ND,GN,bF⟩:=CJ hn JR T9;refine enter_call (codeAny_mono (call w s₀ s₁ mg mb fa o pm cd doc a vs ns G Y ho (fd_plain hd) jv hmg ND GN bF hg) λr s' hq=>?_);obtain⟨rfl,h2,h3,h4⟩:=hq;exact⟨.inl ⟨.bool true,.bool true,[],rfl,λ_=>rfl,.bool true,CK l _,λ_=>⟨List.Pairwise.nil,λ_ hm=>(nomatch hm)⟩⟩,h2,h3,h4⟩
section
variable {prog:Program}{w:World}{A:Around}{E:Value->Shared->Prop}{s:Shared}{K:Frag}
theorem Py 
  (X:K.In s.heap) (hm:makesIn K C=true) (hi:findIn K (.ref C) "__init__" = some (some (.ref fI))) (hf:isFn K (.ref fI)=true)
  (h:codeAny (model prog w) (A.under (.builtin "type.__call__" ⟨.ref C::aC,kw⟩)) (.call (.ref fI) ⟨.ref (s.heap.objs.size+1)::aC,kw⟩) (InitBack (s.heap.objs.size+1) R)
   { s with heap:=(s.heap.push emptyDict).push (instObj C s.heap.objs.size) }):codeAny (model prog w) A (.call (.ref C) ⟨aC,kw⟩) R s:=by
 obtain⟨hh,g,d,t,os⟩:=s;exact make_core (makes_of X hm) (looks_findIn X hi) (λself=>bind_fn X self (beq_iff_eq.mp hf)) (.inl rfl) h
theorem Og 
  (X:K.In s.heap) (I:PySem.W.InstAt s.heap x ox C (some (dictOf es n))) (hg:plainGet K C name=true) (hh:hasDictIn K C=true) (ha:findIn K (.ref C) name=some none)
  (hl:getL name es=some (some v)) (hv:handedIn v=true) (h:Q v { s with toks:=s.toks+1 }):wpAny (model prog w) A (getAttr (.ref x) name expr) Q E s :=
 get_value X I (plainGet_of hg).1 (findObj_own hh ha rfl hl) hv h
def SD (h:Heap)(L d:Addr):List (Addr×Obj):=(List.range h.objs.size).filterMap λa=>if a=L∨a=d then none else (h.get? a).map λo=>(a,o)
end
end Att
namespace L2
open PySem PySem.Spec PyProof.Rows
theorem gL:∀ {vs:List Value}{ns:List Int},IntsAre vs ns->aT (ns.map V.int) vs
 |_,_,.nil=>.nil
 |_,_,.cons n t h=>.cons ⟨t,rfl⟩ (gL h)
noncomputable abbrev zT {K:Frag}{h:Heap}(_:K.In h):Frag:=K
noncomputable def fY (s:Stmt):Arguments:=match s with
 |.FunctionDef _ a _ _ _ _ _ _ _ _=>a
 |_=>{ posonlyargs:=[],args:=[],vararg:=none,kwonlyargs:=[],kw_defaults:=[],kwarg:=none,defaults:=[] }
noncomputable def cG (s:Stmt):List Stmt:=match s with
 |.FunctionDef _ _ b _ _ _ _ _ _ _=>b
 |_=>[]
noncomputable def aP (s:Stmt):Scope:=match s with
 |.FunctionDef _ _ _ _ _ _ sc _ _ _=>sc
 |_=>{ kind:=.function,names:=[],isGenerator:=false,isCoroutine:=false }
abbrev z7:Km:=λ_ _ _ _ _ _=>False
abbrev E0:XK:=λ_ _ _=>False
theorem Pz:zL z7 X E0:=λ_ _ _ _ _ _ _ h=>h.elim
structure NE (K:Frag)(x qual:Str)(st:Stmt)(f:Addr)(fd:FuncData):Prop where
 ex:∃(oc:Value)(od:Option Addr)(kV doc pm:Value)(an:Option Addr)(eI ct:Value)(oC:Array (Option Value)),
  fd=fnOf x qual (fY st) (cG st) (aP st) .none kV doc pm an eI ct/\K.lookup f=some ⟨oc,od,.func fd,oC⟩/\PySem.W.codeIn K eI qual=true
 kp:PySem.W.keepIn K (.ref f)=true
section
variable {P:Program}{w:World}{K:Frag}{mg:Str->Option Value}{base:Heap}
theorem NE.ok {x qual:Str}{st:Stmt}{f:Addr}{fd:FuncData}{N ps:List Str}{k:Nat}{sp:Sp}(F:NE K x qual st f fd)(S:FnScope N ps (aP st))(len:∀vs H Q E,sp vs H Q E->vs.length=ps.length)
  (GL:∀(eI:Value)(A:Around)(outer:List Env)(s:Shared)(H:Hp)(vs:List V)(Q:VK)(E:XK),eN k (A.deeper (envOfC qual (aP st) s.heap.objs.size f eI))->sp vs H Q E ->
   ∃t,uy (oF z7 P w K mg base N qual (aP st) f eI A outer s H E).nox (cG st) t/\t { nx:=λ_ H'=>Q .non H',rt:=Q } (jG N vs) H):sw P w K mg base z7 (k+1) f fd ps sp:=by
 obtain⟨oc,od,kV,doc,pm,an,eI,ct,oC,rfl,lk,jv⟩:=F.ex;refine Kn lk jv S len λA outer s H vs Q E hr O8=>?_;obtain⟨t,h,q⟩:=GL eI A outer s H vs Q E hr O8;exact⟨t,h.nox,q⟩
theorem NE.binds {x qual:Str}{st:Stmt}{f:Addr}{fd:FuncData}{ps:List Str}(F:NE K x qual st f fd)
  (h:∀(kV doc pm:Value)(an:Option Addr)(eI ct:Value)(us:List Value),us.length=ps.length->bindArgs (fnOf x qual (fY st) (cG st) (aP st) .none kV doc pm an eI ct) ⟨us,[]⟩=pure (ps.zip us)):sE K fd ps []:=by
 obtain⟨oc,od,kV,doc,pm,an,eI,ct,oC,rfl,lk,jv⟩:=F.ex;exact .all (h kV doc pm an eI ct)
theorem Mk {x qual:Str}{st:Stmt}{f:Addr}{oc:Value}{od an:Option Addr}{oC:Array (Option Value)}{kV doc pm eI ct:Value}(l:K.lookup f=some ⟨oc,od,.func (fnOf x qual (fY st) (cG st) (aP st) .none kV doc pm an eI ct),oC⟩)
  (c:PySem.W.codeIn K eI qual=true) (k:PySem.W.keepIn K (.ref f)=true):NE K x qual st f (fnOf x qual (fY st) (cG st) (aP st) .none kV doc pm an eI ct):=⟨⟨oc,od,kV,doc,pm,an,eI,ct,oC,rfl,l,c⟩,k⟩
end
def aU (H H':Hp):Prop:=∀b o,H b=some o->H' b=some o
theorem aU.refl (H:Hp):aU H H:=λ_ _ h=>h
theorem aU.trans (a:aU H H1)(b:aU H1 H2):aU H H2:=λc o h=>b c o (a c o h)
theorem aU.free (e:aU H H')(h:H' l=Option.none):H l=Option.none:=by
 cases q:H l with
 |none=>rfl
 |some o=>
  rw[e l o q]at h;cases h
theorem aU.seq {K:Frag}{H H':Hp}{a:Addr}{xs:List V}(e:aU H H')(h:iA K H a xs):iA K H' a xs:=by
 rcases h with (h|⟨o,h⟩)|h
 ·exact .inl (.inl (e _ _ h))
 ·exact .inl (.inr ⟨o,e _ _ h⟩)
 ·exact .inr h
section
variable {κ:Type}[DecidableEq κ]
noncomputable def jT (aI:List (κ×V))(k:κ):Option V:=(aI.find? λkv=>decide (kv.1=k)).map (·.2)
def lR (aI:List (κ×V))(k:κ)(v:V):List (κ×V) :=
 if(aI.any λkv=>decide (kv.1=k))=true then aI.map (λkv=>if kv.1=k then (kv.1,v)else kv)else aI++[(k,v)]
noncomputable def Kp (aI:List (κ×V))(k:κ):List (κ×V):=aI.filter λkv=>decide (kv.1≠k)
theorem lS {p:κ×V}{r:List (κ×V)}{k:κ}(e:p.1=k):jT (p::r) k=some p.2:=by simp[jT,List.find?_cons,e]
theorem lU {p:κ×V}{r:List (κ×V)}{k:κ}(e:¬p.1=k):jT (p::r) k=jT r k:=by simp[jT,List.find?_cons,e]
theorem xg (k:κ):∀aI:List (κ×V),(aI.any λkv=>decide (kv.1=k))=(jT aI k).isSome
 |[]=>rfl
 |p::r=>by
  rw[List.any_cons];by_cases e:p.1=k
  ·simp only[lS e,decide_eq_true e,Bool.true_or,Option.isSome_some]
  ·rw[lU e,decide_eq_false e,Bool.false_or];exact xg k r
theorem jU (aI:List (κ×V))(k:κ)(v:V):(lR aI k v).length<=aI.length+1:=by
 unfold lR;split
 ·rw[vI];omega
 ·rw[uZ,vE,List.length_nil];omega
theorem oE.isSome_eq (r:oE o u):o.isSome=u.isSome:=by
 cases o with
 |none=>cases u with
  |none=>rfl
  |some _=>exact(show False from r).elim
 |some _=>cases u with
  |none=>exact(show False from r).elim
  |some _=>rfl
theorem oE.getD (r:oE o u)(rd:aX d d'):aX (o.getD d) (u.getD d'):=by
 cases o with
 |none=>cases u with
  |none=>exact rd
  |some _=>exact(show False from r).elim
 |some _=>cases u with
  |none=>exact(show False from r).elim
  |some _=>exact r
theorem KV.val {aI:List (κ×V)}{vs:List (κ×Value)}(r:KV aI vs)(k:κ):oE (jT aI k) (valueAt vs k):=by
 unfold KV at r;induction r with
 |nil=>exact True.intro
 |@cons p q ps qs h t ih=>
  obtain⟨h1,h2⟩:=h;by_cases e:p.1=k
  ·have e':q.1=k:=h1.symm.trans e;have b:valueAt (q::qs) k=some q.2:=by simp[valueAt,List.find?_cons,e']
   rw[lS e,b];exact h2
  ·have e':¬q.1=k:=λz=>e (h1.trans z);have b:valueAt (q::qs) k=valueAt qs k:=by simp[valueAt,List.find?_cons,e']
   rw[lU e,b];exact ih
theorem KV.any (r:KV aI vs)(k:κ):(aI.any λkv=>decide (kv.1=k))=vs.any λkv=>decide (kv.1=k):=by
 unfold KV at r;induction r with
 |nil=>rfl
 |cons h t ih=>rw[List.any_cons,List.any_cons,ih,h.1]
theorem KV.repl (r:KV aI vs)(k:κ)(ry:aX y u):
  KV (aI.map λkv=>if kv.1=k then (kv.1,y)else kv) (vs.map λkv=>if kv.1=k then (kv.1,u)else kv):=by
 unfold KV at r ⊢;induction r with
 |nil=>exact .nil
 |@cons p q ps qs h t ih=>
  rw[uY,uY];refine .cons ?_ ih;obtain⟨h1,h2⟩:=h;by_cases e:p.1=k
  ·rw[if_pos e,if_pos (h1.symm.trans e)];exact⟨h1,ry⟩
  ·rw[if_neg e,if_neg (λz=>e (h1.trans z))];exact⟨h1,h2⟩
theorem KV.put (r:KV aI vs)(k:κ)(ry:aX y u):KV (lR aI k y) (stored vs k u):=by
 unfold lR stored;rw[r.any k];by_cases e:(vs.any λkv=>decide (kv.1=k))=true
 ·rw[if_pos e,if_pos e];exact r.repl k ry
 ·rw[if_neg e,if_neg e];exact Paired.snoc r ⟨rfl,ry⟩
theorem KV.drop (r:KV aI vs)(k:κ):KV (Kp aI k) (without vs k):=by
 unfold KV at r ⊢;unfold Kp without;induction r with
 |nil=>exact .nil
 |@cons p q ps qs h t ih=>
  obtain⟨h1,h2⟩:=h;rw[List.filter_cons,List.filter_cons];by_cases e:p.1=k
  ·have a:¬decide (p.1≠k)=true:=by simp[e]
   have b:¬decide (q.1≠k)=true:=by simp[h1.symm.trans e]
   rw[if_neg a,if_neg b];exact ih
  ·have e':¬q.1=k:=λz=>e (h1.trans z);have a:decide (p.1≠k)=true:=by simp[e]
   have b:decide (q.1≠k)=true:=by simp[e']
   rw[if_pos a,if_pos b];exact .cons ⟨h1,h2⟩ ih
theorem KV.keys {aI:List (κ×V)}{vs:List (κ×Value)}(r:KV aI vs):aI.map (·.1)=vs.map (·.1):=by
 unfold KV at r;induction r with
 |nil=>rfl
 |cons h t ih=>rw[uY,uY,ih,h.1]
theorem KV.length (r:KV aI vs):aI.length=vs.length:=Paired.length r
end
theorem xi (r:aX (kV k) u):(bZ P w).is k u=true:=by
 cases k with
 |inl i=>obtain⟨t,e⟩:=(show ∃t,u=Value.int i t from r);subst e;exact wR P w i t
 |inr x=>obtain⟨t,e⟩:=(show ∃t,u=Value.str x t from r);subst e;exact wS P w x t
theorem sP:∀ {ks:List cw}{us:List Value},aT (ks.map kV) us->ItemsAre (bZ P w) ks us
 |[],_,r=>by rw[List.map_nil]at r;cases r;exact .nil
 |k::ks,_,r=>by
  rw[uY]at r;cases r with
  |cons h t=>exact .cons (xi h) (sP t)
abbrev KT (H:Hp):List (List cw×V)->List (List cw×Addr×Value)->Prop:=Paired λp q=>p.1=q.1/\H q.2.1=some (.tup (p.1.map kV))/\aX p.2 q.2.2
theorem KT.val {H:Hp}{aI:List (List cw×V)}{xs:List (List cw×Addr×Value)}(r:KT H aI xs)(k:List cw):oE (jT aI k) ((atKey xs k).map (·.2)):=by
 induction r with
 |nil=>exact True.intro
 |@cons p q ps qs h t ih=>
  obtain⟨h1,_,h2⟩:=h;by_cases e:p.1=k
  ·have e':q.1=k:=h1.symm.trans e;have b:atKey (q::qs) k=some q.2:=by simp[atKey,List.find?_cons,e']
   rw[lS e,b];exact h2
  ·have e':¬q.1=k:=λz=>e (h1.trans z);have b:atKey (q::qs) k=atKey qs k:=by simp[atKey,List.find?_cons,e']
   rw[lU e,b];exact ih
theorem KT.repl (r:KT H aI xs)(k:List cw)(ry:aX y u):
  KT H (aI.map λkv=>if kv.1=k then (kv.1,y)else kv) (xs.map (putAt k u)):=by
 induction r with
 |nil=>exact .nil
 |@cons p q ps qs h t ih=>
  rw[uY,uY];refine .cons ?_ ih;obtain⟨h1,h2,h3⟩:=h;unfold putAt;by_cases e:p.1=k
  ·rw[if_pos e,if_pos (h1.symm.trans e)];exact⟨h1,h2,ry⟩
  ·rw[if_neg e,if_neg (λz=>e (h1.trans z))];exact⟨h1,h2,h3⟩
theorem KT.put (r:KT H aI xs)(k:List cw)(hb:H b=some (.tup (k.map kV)))(ry:aX y u):
  KT H (lR aI k y) (storedH xs k b u):=by
 have e:(aI.any λkv=>decide (kv.1=k))=(atKey xs k).isSome:=by
  rw[xg,(r.val k).isSome_eq,Option.isSome_map]
 unfold lR storedH;rw[e];by_cases q:(atKey xs k).isSome=true
 ·rw[if_pos q,if_pos q];exact r.repl k ry
 ·rw[if_neg q,if_neg q];exact Paired.snoc r ⟨rfl,hb,ry⟩
theorem KT.keeps (r:KT H aI xs)(ht:∀b ys,H b=some (.tup ys)->H' b=some (.tup ys)):KT H' aI xs :=
 Paired.mapP r λ_ _ z=>⟨z.1,ht _ _ z.2.1,z.2.2⟩
section
variable {P:Program}{w:World}{H:Hp}{h:Heap}{a:Addr}
theorem Kq (ok:kR P w H h)(e:Rd H a u):ce P w H h a u:=e.ok ok
theorem zU (ok:kR P w H h)(e:H a=some (.dK aI ob)):h.get? a=some ob:=And.left (show ce P w H h a (.dK aI ob)from ok a _ e)
theorem AY (ok:kR P w H h)(e:Rd H a (.dK aI ob)):aI.length<=sizeLine/\(a == sysModules)=false/\∃vs,KV aI vs/\h.DictOf (bZ P w) a vs :=
 And.right (show ce P w H h a (.dK aI ob)from Kq ok e)
theorem p9 (ok:kR P w H h)(e:H a=some (.dK aI ob)):aI.length<=sizeLine/\(a == sysModules)=false/\∃vs,KV aI vs/\h.DictOf (bZ P w) a vs:=AY ok (.inl e)
theorem uI (ok:kR P w H h)(e:H a=some (.tup (ks.map kV))):(tupleKind (bZ P w)).is h ks a:=by
 obtain⟨_,its,r,o,h1,h2,n,h3⟩:=(show ce P w H h a (.tup (ks.map kV))from ok a _ e);exact⟨o,its.toArray,n,h1,h2,h3,by simpa using sP r⟩
theorem AZ (ok:kR P w H h)(e:Rd H a (.dT aI)):aI.length<=sizeLine/\(a == sysModules)=false /\
  ∃xs,KT H aI xs/\h.DictOfH (tupleKind (bZ P w)) a xs:=by
 obtain⟨z,y,xs,r,o,es,ep,h1,h2,h3,h4,h5⟩:=(show ce P w H h a (.dT aI)from Kq ok e);refine⟨z,y,xs,r,o,es,ep,h1,h2,h3,h4,λx hx=>?_,h5⟩;have all:∀ {l:List (List cw×V)}{m:List (List cw×Addr×Value)},KT H l m->∀x∈m,(tupleKind (bZ P w)).is h x.1 x.2.1:=by
  intro l m q;induction q with
  |nil=>intro x hx;exact nomatch hx
  |@cons p q ps qs hq t ih=>
   intro x hx;rcases vP hx with e|hx
   ·subst e;exact uI ok (by rw[←hq.1];exact hq.2.1)
   ·exact ih x hx
 exact all r x hx
theorem P0 (ok:kR P w H h)(e:H a=some (.dT aI)):aI.length<=sizeLine/\(a == sysModules)=false /\
  ∃xs,KT H aI xs/\h.DictOfH (tupleKind (bZ P w)) a xs:=AZ ok (.inl e)
end
def CL (H:Hp)(a:Addr)(y:V)(r:Option V):Prop :=
 (∃aI k ob,Rd H a (.dK aI ob)/\y=kV k/\r=jT aI k)∨∃aI k b,Rd H a (.dT aI)/\y=.ref b/\H b=some (.tup (k.map kV))/\r=jT aI k
def P1 (H:Hp)(a:Addr)(y v:V)(Q:Hp->Prop):Prop :=
 (∃aI k ob,H a=some (.dK aI ob)/\y=kV k/\aI.length<sizeLine/\∀TC,Q (upd H a (.dK (lR aI k v) TC))) ∨
 ∃aI k b,H a=some (.dT aI)/\y=.ref b/\H b=some (.tup (k.map kV))/\aI.length<sizeLine/\Q (upd H a (.dT (lR aI k v)))
theorem CL.t (e:H a=some (.dT aI))(eb:H b=some (.tup (k.map kV))):CL H a (.ref b) (jT aI k):=.inr ⟨aI,k,b,.inl e,rfl,eb,rfl⟩
section
variable {X:Cx}{ae:List (Addr×Obj)}{σ:St}{H:Hp}{s:Shared}{a:Addr}{y v:V}{u r:Value}{o:Option V}{A:Around}{E:Value->Shared->Prop}
theorem Inv.big (I:Inv X ae σ H s):sysModules<s.heap.objs.size:=by
 have h:mainGlobals<s.heap.objs.size:=(I.mod.glob.keeps I.bk).lt;exact Nat.lt_trans (by decide) h
theorem SE (hu:A.units+1<cLine)(I:Inv X ae σ H s)(g:CL H a y o)(ry:aX y u)(h:∀s',Inv X ae σ H s'->Q (.bool o.isSome) s'):
  wpAny (model X.prog X.w) A (compareOp .In u (.ref a)) Q E s:=by
 rcases g with⟨aI,k,ob,e,ey,l⟩|⟨aI,k,b,e,ey,eb,l⟩
 ·subst ey;obtain⟨z,hd,vs,wQ,dd⟩:=AY I.hok e;refine wpAny_in_of (xi ry) hd dd.mapOf ?_;rw[←(wQ.val k).isSome_eq,←l];exact h _ (I.tok _)
 ·subst ey;cases (show u=Value.ref b from ry)
  obtain⟨z,hd,xs,wQ,dd⟩:=AZ I.hok e;refine wpAny_in_heap (tupleKind_room_in1 hu) (uI I.hok eb) hd dd ?_;have q:=(wQ.val k).isSome_eq;rw[Option.isSome_map]at q;rw[←q,←l];exact h _ (I.tok _)
theorem uJ (I:Inv X ae σ H s)(mu:OP (H a))(hs:Heap.SameBut a s.heap h')(he:∃q,h'.get? a=some q)(new:ce X.prog X.w (upd H a ob) h' a ob):
  Inv X ae σ (upd H a ob) { s with heap:=h',toks:=t' } :=
 I.write (x:=a) (e:=a) mu (.inl rfl) (λb q hb z=>(hs.2 b hb).trans z) he new
theorem E3 (z:aI.length<=sizeLine)(hd:(a == sysModules)=false)(wQ:KV aI vs)(dd:h'.DictOf (bZ P w) a vs)(hg:h'.get? a=some ob):
  ce P w H' h' a (.dK aI ob):=⟨hg,z,hd,vs,wQ,dd⟩
theorem CM (hu:A.units+1<cLine)(I:Inv X ae σ H s)(g:P1 H a y v R)(ry:aX y u)(rv:aX v r)(h:∀H' s',R H'->Inv X ae σ H' s'->Q () s'):
  wpAny (model X.prog X.w) A (setItem (.ref a) u r) Q E s:=by
 rcases g with⟨aI,k,ob,e,ey,l,eH⟩|⟨aI,k,b,e,ey,eb,l,eH⟩
 ·subst ey;obtain⟨z,hd,vs,wQ,dd⟩:=p9 I.hok e;have hz:vs.length<=sizeLine:=by rw[←wQ.length];exact z
  have hl:(lR aI k v).length<=sizeLine:=by have:=jU aI k v;omega
  refine wpAny_setItem_pairs (hsz:=hz) (xi ry) dd λh' JU hs=>?_;obtain⟨q,hq⟩:∃q,h'.get? a=some q:=let ⟨q,_,_,hq,_⟩:=JU;⟨q,hq⟩;exact h _ _ (eH q) (uJ I (by rw[e];exact True.intro) hs ⟨q,hq⟩ (E3 hl hd (wQ.put k rv) JU hq))
 ·subst ey;cases (show u=Value.ref b from ry)
  obtain⟨z,hd,xs,wQ,dd⟩:=P0 I.hok e;have hz:xs.length<=sizeLine:=by rw[←Paired.length wQ];exact z
  have hl:(lR aI k v).length<=sizeLine:=by have:=jU aI k v;omega
  refine wpAny_setItem_heap (hsz:=hz) (tupleKind_room_in1 hu) (uI I.hok eb) dd λh' JU hs=>h _ _ eH ?_;obtain⟨q,es,ep,hq,h2,h3,h4,_,h5⟩:=JU;refine uJ I (by rw[e];exact True.intro) hs ⟨q,hq⟩ ⟨hl,hd,_,(wQ.put k eb rv).keeps λc ys ec=>?_,q,es,ep,hq,h2,h3,h4,h5⟩;rw[aH (OO ec e (λz=>nomatch z))];exact ec
end
def SF (ty td:TE):TE:=λσ H Q=>ty σ H λy H1=>td σ H1 λx H2=>∃a o,x=.ref a/\CL H2 a y o/\Q (.bl o.isSome) H2
def Ba (td ty tv:TE):TS:=λD σ H=>tv σ H λv H1=>td σ H1 λx H2=>ty σ H2 λy H3=>∃a,x=.ref a/\P1 H3 a y v (D.nx σ)
section
variable {X:Cx}{o i e value:Expr}{pos zp DP:Pos}{td ty tv:TE}
theorem Ml (hu:X.A.units+1<cLine)(hi:PE X i ty)(ho:PE X o td):PC X .In i o (SF ty td):=by
 intro ae s σ H Q I h;refine cx (hi ae s σ H _ I h) λiv s1 ⟨y,H1,I1,ry,q1⟩=>cx (ho ae s1 σ H1 _ I1 q1) λu s2 ⟨x,H2,I2,rx,a,ov,ex,g,q2⟩=>?_;subst ex;obtain rfl:u=Value.ref a:=rx;exact SE hu I2 g ry λs3 I3=>⟨.bl ov.isSome,H2,I3,rfl,q2⟩
theorem uK (hu:X.A.units+1<cLine)(ho:PE X o td)(hi:PE X i ty)(hv:PE X value tv)(hs:swapsWith value (some (.Subscript o i zp)) pos.line X.env=pure false):
  PS X (.Assign [.Subscript o i zp] value pos) (Ba td ty tv):=by
 intro ae s σ H D I h;refine wpAny_Assign_Subscript (cx (hv ae s σ H _ I h) λr s1 ⟨v,H1,I1,rv,q1⟩=>cx (ho ae s1 σ H1 _ I1 q1) λu s2 ⟨x,H2,I2,rx,q2⟩=>cx (hi ae s2 σ H2 _ I2 q2) λiv s3 ⟨y,H3,I3,ry,a,ex,g⟩=>?_) hs;subst ex;obtain rfl:u=Value.ref a:=rx;exact CM hu I3 g ry rv λH4 s4 q3 I4=>⟨σ,H4,I4,q3⟩
end
theorem xj (h:Heap)(hb:sysModules<h.objs.size):ce P w H (h.push { cls:=.type "dict",data:=.dict #[] }) h.objs.size (.dK [] { cls:=.type "dict",data:=.dict #[] }) :=
 ⟨vY _ rfl,uN _,beq_eq_false_iff_ne.mpr (Ne.symm (vS hb)),[],.nil,Heap.DictOf.new h⟩
theorem E4 (h:Heap)(hb:sysModules<h.objs.size):ce P w H (h.push { cls:=.type "dict",data:=.dict #[] }) h.objs.size (.dT []) :=
 ⟨uN _,beq_eq_false_iff_ne.mpr (Ne.symm (vS hb)),[],.nil,_,#[],0,vY _ rfl,⟨rfl,rfl,rfl⟩,rfl,rfl,List.nodup_nil⟩
def E5:TE:=λ_ H Q=>∀p ob,H p=none->Q (.ref p) (upd H p (.dK [] ob))
def E6:TE:=λ_ H Q=>∀p,H p=none->Q (.ref p) (upd H p (.dT []))
section
variable {X:Cx}{pos:Pos}
theorem E7:PE X (.Dict [] [] pos) E5:=λae s σ H Q I h=>
 wpAny_Dict_empty ⟨.ref s.heap.objs.size,_,I.laid (a:=s.heap.objs.size) (o:=.dK [] { cls:=.type "dict",data:=.dict #[] }) (t':=s.toks) (λ_ _ q=>vZ _ q) (vT _) (xj s.heap I.big),rfl,h _ _ (I.hok.fresh (vT _))⟩
theorem E8:PE X (.Dict [] [] pos) E6:=λae s σ H Q I h=>
 wpAny_Dict_empty ⟨.ref s.heap.objs.size,_,I.laid (a:=s.heap.objs.size) (o:=.dT []) (t':=s.toks) (λ_ _ q=>vZ _ q) (vT _) (E4 s.heap I.big),rfl,h _ (I.hok.fresh (vT _))⟩
end
structure M1 (X:Cx)(o:Expr)(m:Str)(dw:Pos)(e:Expr)(cA:Pos):Prop where
 base:attributeBase o m X.env (eval o X.env)=eval o X.env
 few:((backTo cA (starEach [e] X.env)).all (λx=>!x.1) && (backToKw cA (keywordEach [] X.env)).all (λx=>x.1.isSome)
  && decide (([e]:List Expr).length+([]:List Keyword).length+(if([]:List Keyword).isEmpty then 0 else 1)<30))=true
 line:(dw.endLine == cA.line)=true
 trees:backTo cA (starEach [e] X.env)=[(false,eval e X.env)]
def US (H:Hp)(a:Addr):Prop:=(∃aI ob,Rd H a (.dK aI ob))∨∃aI,Rd H a (.dT aI)
theorem Mm (I:Inv X ae σ H s)(d:US H a):
  s.TypeIs (.ref a) "dict"/\(∀b,Value.ref a=.ref b->∃ob,s.heap.get? b=some ob/\ob.dict=none)/\(a == sysModules)=false:=by
 rcases d with⟨aI,Vu,e⟩|⟨aI,e⟩
 ·obtain⟨_,hd,vs,_,dd⟩:=AY I.hok e;refine⟨dd.typeIs,λb q=>?_,hd⟩;cases q
  obtain⟨ob,_,_,h1,h2,_⟩:=dd;exact⟨ob,h1,h2.2.1⟩
 ·obtain⟨_,hd,xs,_,dd⟩:=AZ I.hok e;refine⟨dd.typeIs,λb q=>?_,hd⟩;cases q
  obtain⟨ob,_,_,h1,h2,_⟩:=dd;exact⟨ob,h1,h2.2.1⟩
section
variable {X:Cx}{ae:List (Addr×Obj)}{σ:St}{H:Hp}{s:Shared}{a:Addr}{y d:V}{u r:Value}{o:Option V}{A:Around}{E:Value->Shared->Prop}
theorem Mn (hu:A.units+1<cLine)(I:Inv X ae σ H s)(g:CL H a y o)(ry:aX y u)(h:∀w' s',Inv X ae σ H s'->aX (o.getD .non) w'->Q w' s'):
  wpAny (model X.prog X.w) A (call (.builtin "dict.get") [.ref a,u]) Q E s:=by
 rcases g with⟨aI,k,ob,e,ey,l⟩|⟨aI,k,b,e,ey,eb,l⟩
 ·subst ey;obtain⟨z,hd,vs,wQ,dd⟩:=AY I.hok e;refine call_meetsIn PySem.F.slot_dict_get dd.typeIs PySem.F.entry_dict_get (PySem.F.args_dict_get_2 _ _) (meets_dict_get (bZ X.prog X.w) a (xi ry) hd) ⟨_,dd.mapOf,h _ _ (I.tok _) ?_⟩;rw[l];exact(wQ.val k).getD rfl
 ·subst ey;cases (show u=Value.ref b from ry)
  obtain⟨z,hd,xs,wQ,dd⟩:=AZ I.hok e;refine call_meetsIn PySem.F.slot_dict_get dd.typeIs PySem.F.entry_dict_get (PySem.F.args_dict_get_2 _ _) (meetsH_dict_get (tupleKind (bZ X.prog X.w)) a b hd) ⟨tupleKind_room_in1 hu,k,xs,uI I.hok eb,dd,h _ _ (I.tok _) ?_⟩;rw[l];exact(wQ.val k).getD rfl
end
def Mo (td ty:TE):TE:=λσ H Q=>td σ H λx H1=>∃a,x=.ref a/\US H1 a/\ty σ H1 λy H2=>∃o,CL H2 a y o/\Q (o.getD .non) H2
section
variable {X:Cx}{o e f:Expr}{dw cA:Pos}{td ty tx:TE}
theorem xl (hu:X.A.units+1<cLine)(ho:PE X o td)(he:PE X e ty)(m:M1 X o "get" dw e cA):PE X (.Call (.Attribute o "get" dw) [e] [] cA) (Mo td ty):=by
 intro ae s σ H Q I h;refine wpAny_Call_method m.base m.few m.line PySem.F.plainAttrs_dict PySem.F.slot_dict_get PySem.F.type_dict_get (cx (ho ae s σ H _ I h) λu s1 ⟨x,H1,I1,rx,a,ex,d,q1⟩=>?_);subst ex;obtain rfl:u=Value.ref a:=rx;obtain⟨t1,t2,_⟩:=Mm I1 d;refine⟨t1,t2,?_⟩;rw[m.trees];refine Calls.callWith_builtin rfl (Calls.evalArgs_plain (Calls.spliced_cons (cx (he ae s1 σ H1 _ I1 q1) λiv s2 ⟨y,H2,I2,ry,ov,g,q2⟩=>Calls.spliced_nil ?_)));exact Mn hu I2 g ry λw' s3 I3 Q4=>⟨_,H2,I3,Q4,q2⟩
end
end L2
namespace DL
open PySem L2
set_option linter.all false
abbrev St:=L2.St
inductive D where
 |non|bl (b:Bool)|int (i:Int)|str (x:Str)|ty (n:String)|tup (ds:List D)|lst (ds:List D)
  |dk (ks:List cw) (vs:List D)|dt (ks:List (List cw)) (vs:List D)
abbrev OB:=Option (D×Bool)
mutual
inductive Is (K:Frag)(H:Hp):V->D->Prop where
 |non:Is K H .non .non
 |bl (b:Bool):Is K H (.bl b) (.bl b)
 |int (i:Int):Is K H (.int i) (.int i)
 |str (x:Str):Is K H (.str x) (.str x)
 |ty (n:String):Is K H (.ty n) (.ty n)
 |tup {a:Addr}{vs:List V}{ds:List D}(h:iZ K H a vs) (hs:IsL K H vs ds):Is K H (.ref a) (.tup ds)
 |lst {a:Addr}{vs:List V}{ds:List D}(h:iA K H a vs) (hs:IsL K H vs ds):Is K H (.ref a) (.lst ds)
 |dk {a:Addr}{ks:List cw}{vs:List V}{ds:List D}{ob:Obj}(h:H a=some (.dK (ks.zip vs) ob)) (hl:ks.length=vs.length) (hs:IsL K H vs ds):Is K H (.ref a) (.dk ks ds)
 |dt {a:Addr}{ks:List (List cw)}{vs:List V}{ds:List D}(h:H a=some (.dT (ks.zip vs))) (hl:ks.length=vs.length) (hs:IsL K H vs ds):Is K H (.ref a) (.dt ks ds)
inductive IsL (K:Frag)(H:Hp):List V->List D->Prop where
 |nil:IsL K H [] []
 |cons {v:V}{d:D}{vs:List V}{ds:List D}(h:Is K H v d) (hs:IsL K H vs ds):IsL K H (v::vs) (d::ds)
end
mutual
def bu:D->Bool
 |.lst _=>false
 |.dk _ _=>false
 |.dt _ _=>false
 |.tup ds=>bx ds
 |_=>true
def bx:List D->Bool
 |[]=>true
 |d::ds=>bu d && bx ds
end
@[simp] theorem Oh:bu .non=true:=by simp only[bu]
@[simp] theorem P2 (b:Bool):bu (.bl b)=true:=by simp only[bu]
@[simp] theorem Oi (i:Int):bu (.int i)=true:=by simp only[bu]
@[simp] theorem Oj (x:Str):bu (.str x)=true:=by simp only[bu]
@[simp] theorem P4 (x:String):bu (.ty x)=true:=by simp only[bu]
@[simp] theorem Ol (ds:List D):bu (.tup ds)=bx ds:=by rw[bu]
@[simp] theorem Om (ds:List D):bu (.lst ds)=false:=by rw[bu]
@[simp] theorem P5 (ks:List cw)(ds:List D):bu (.dk ks ds)=false:=by rw[bu]
@[simp] theorem P6 (ks:List (List cw))(ds:List D):bu (.dt ks ds)=false:=by rw[bu]
@[simp] theorem Mp:bx []=true:=by rw[bx]
@[simp] theorem Kr (d:D)(ds:List D):bx (d::ds)=(bu d && bx ds):=by rw[bx]
section
variable {K:Frag}{H H':Hp}
mutual
theorem Is.keep (hT:∀a vs,iZ K H a vs->iZ K H' a vs)(hL:∀a vs,iA K H a vs->iA K H' a vs)(hK:∀a aI ob,H a=some (.dK aI ob)->H' a=some (.dK aI ob))(hM:∀a aI,H a=some (.dT aI)->H' a=some (.dT aI)):∀ {v:V}{d:D},Is K H v d->Is K H' v d
 |_,_,.non=>.non
 |_,_,.bl b=>.bl b
 |_,_,.int i=>.int i
 |_,_,.str x=>.str x
 |_,_,.ty x=>.ty x
 |_,_,.tup h hs=>.tup (hT _ _ h) (IsL.keep hT hL hK hM hs)
 |_,_,.lst h hs=>.lst (hL _ _ h) (IsL.keep hT hL hK hM hs)
 |_,_,.dk h hl hs=>.dk (hK _ _ _ h) hl (IsL.keep hT hL hK hM hs)
 |_,_,.dt h hl hs=>.dt (hM _ _ h) hl (IsL.keep hT hL hK hM hs)
theorem IsL.keep (hT:∀a vs,iZ K H a vs->iZ K H' a vs)(hL:∀a vs,iA K H a vs->iA K H' a vs)(hK:∀a aI ob,H a=some (.dK aI ob)->H' a=some (.dK aI ob))(hM:∀a aI,H a=some (.dT aI)->H' a=some (.dT aI)):∀ {vs:List V}{ds:List D},IsL K H vs ds->IsL K H' vs ds
 |_,_,.nil=>.nil
 |_,_,.cons h hs=>.cons (Is.keep hT hL hK hM h) (IsL.keep hT hL hK hM hs)
end
mutual
theorem Is.keepT (hT:∀a vs,iZ K H a vs->iZ K H' a vs):∀ {v:V}{d:D},Is K H v d->bu d=true->Is K H' v d
 |_,_,.non,_=>.non
 |_,_,.bl b,_=>.bl b
 |_,_,.int i,_=>.int i
 |_,_,.str x,_=>.str x
 |_,_,.ty x,_=>.ty x
 |_,_,.tup h hs,n=>.tup (hT _ _ h) (IsL.keepT hT hs (by simpa using n))
 |_,_,.lst h hs,n=>by simp at n
 |_,_,.dk h hl hs,n=>by simp at n
 |_,_,.dt h hl hs,n=>by simp at n
theorem IsL.keepT (hT:∀a vs,iZ K H a vs->iZ K H' a vs):∀ {vs:List V}{ds:List D},IsL K H vs ds->bx ds=true->IsL K H' vs ds
 |_,_,.nil,_=>.nil
 |_,_,.cons h hs,n=>by
  simp at n;exact .cons (Is.keepT hT h n.1) (IsL.keepT hT hs n.2)
end
theorem be (e:aU H H')(h:iZ K H a xs):iZ K H' a xs:=by
 rcases h with (h|⟨o,h⟩)|h
 ·exact .inl (.inl (e _ _ h))
 ·exact .inl (.inr ⟨o,e _ _ h⟩)
 ·exact .inr h
theorem Is.mono (h:Is K H v d)(e:aU H H'):Is K H' v d:=h.keep (λ_ _=>be e) (λ_ _=>e.seq) (λ_ _ _ q=>e _ _ q) λ_ _ q=>e _ _ q
theorem IsL.mono (h:IsL K H v d)(e:aU H H'):IsL K H' v d:=h.keep (λ_ _=>be e) (λ_ _=>e.seq) (λ_ _ _ q=>e _ _ q) λ_ _ q=>e _ _ q
theorem IsL.length:∀ {vs:List V}{ds:List D},IsL K H vs ds->vs.length=ds.length
 |_,_,.nil=>rfl
 |_,_,.cons _ t=>congrArg (· + 1) t.length
theorem IsL.get:∀ {vs:List V}{ds:List D}{i:Nat}{d:D},IsL K H vs ds->ds[i]? = some d->∃v,vs[i]? = some v/\Is K H v d
 |_,_,_,_,.nil,e=>by simp at e
 |_,_,0,_,.cons h _,e=>by simp at e;subst e;exact⟨_,rfl,h⟩
 |_,_,i+1,d,.cons _ t,e=>by
  obtain⟨u,h1,h2⟩:=t.get (i:=i) (d:=d) (by simpa using e);exact⟨u,by simpa using h1,h2⟩
theorem IsL.append:∀ {vs ws:List V}{ds es:List D},IsL K H vs ds->IsL K H ws es->IsL K H (vs++ws) (ds++es)
 |_,_,_,_,.nil,s=>s
 |_,_,_,_,.cons r t,s=>.cons r (t.append s)
theorem IsL.take:∀ {vs:List V}{ds:List D}(n:Nat),IsL K H vs ds->IsL K H (vs.take n) (ds.take n)
 |_,_,0,_=>by simpa using IsL.nil
 |_,_,_+1,.nil=>.nil
 |_,_,n+1,.cons r t=>.cons r (t.take n)
theorem IsL.drop:∀ {vs:List V}{ds:List D}(n:Nat),IsL K H vs ds->IsL K H (vs.drop n) (ds.drop n)
 |_,_,0,r=>r
 |_,_,_+1,.nil=>.nil
 |_,_,n+1,.cons _ t=>t.drop n
theorem IsL.set (h:Is K H v d):∀ {vs:List V}{ds:List D}(i:Nat),IsL K H vs ds->IsL K H (vs.set i v) (ds.set i d)
 |_,_,_,.nil=>.nil
 |_,_,0,.cons _ t=>.cons h t
 |_,_,i+1,.cons r t=>.cons r (IsL.set h i t)
theorem IsL.eraseIdx:∀ {vs:List V}{ds:List D}(i:Nat),IsL K H vs ds->IsL K H (vs.eraseIdx i) (ds.eraseIdx i)
 |_,_,_,.nil=>.nil
 |_,_,0,.cons _ t=>t
 |_,_,i+1,.cons r t=>.cons r (t.eraseIdx i)
theorem IsL.flat {vs:List V}{ns:List Int}(h:vs=ns.map V.int):IsL K H vs (ns.map D.int):=by
 subst h;induction ns with
 |nil=>exact .nil
 |cons n ns ih=>exact .cons (.int n) ih
end
structure Ext (B N H H':Hp):Prop where
 hh:aU H H'
 bn:aU B N
 nh:aU N H'
 new:∀a o,N a=some o->B a=some o∨H a=none
theorem Ext.refl (h:aU B H):Ext B B H H:=⟨.refl _,.refl _,h,λ_ _ e=>.inl e⟩
theorem Ext.trans (x:Ext B N H H1)(y:Ext N N2 H1 H2):Ext B N2 H H2 :=
 ⟨x.hh.trans y.hh,x.bn.trans y.bn,y.nh,λa o e=>(y.new a o e).elim (λq=>x.new a o q) λq=>.inr (x.hh.free q)⟩
theorem Ext.laid (h:aU B H)(hp:H p=none):Ext B (upd B p o) H (upd H p o):=by
 have hB:B p=none:=h.free hp;refine⟨λa u e=>?_,λa u e=>?_,λa u e=>?_,λa u e=>?_⟩
 ·rw[aH (λq=>by subst q;rw[hp]at e;cases e)];exact e
 ·rw[aH (λq=>by subst q;rw[hB]at e;cases e)];exact e
 ·by_cases q:a=p
  ·subst q;rw[aE]at e ⊢;exact e
  ·rw[aH q]at e ⊢;exact h _ _ e
 ·by_cases q:a=p
  ·subst q;exact .inr hp
  ·rw[aH q]at e;exact .inl e
theorem Ext.grow (h:aU B H)(hh:aU H H'):Ext B B H H':=⟨hh,.refl _,h.trans hh,λ_ _ e=>.inl e⟩
abbrev Env:=List OB
abbrev FE:=Env->OB
abbrev FA:=Env->Option (List D)
abbrev FT:=Env->Option Bool
def Oo (K:Frag)(H N:Hp)(v:V)(d:D):Prop:=∃(a:Addr)(vs:List V)(ds:List D),v=.ref a/\d=.lst ds/\H a=none/\N a=some (.lst vs)/\IsL K N vs ds
theorem Oo.back (h:Oo K H' N v d)(e:aU H H'):Oo K H N v d:=let ⟨a,vs,ds,q,y,z,r⟩:=h;⟨a,vs,ds,q,y,e.free z,r⟩
noncomputable def lV:List Str:=["in_order","has_seal","is_first_death","bases_by"]
noncomputable def pA (x:Str):Str:=x ++ ".<locals>." ++ "<lambda>"
def Tb (K:Frag)(B:Hp):Prop:=∀x∈lV,∀c P,PySem.W.tabIn K x=some (c,P)->B P=some (.tbl (pA x))
theorem Tb.mono (h:Tb K B)(e:aU B B'):Tb K B':=λx hx c P q=>e _ _ (h x hx c P q)
structure fE (K:Frag)(B:Hp)(σ:St)(ρ:Env):Prop where
 tb:Tb K B
 at':∀(i:Nat)(d:D)(b:Bool),ρ[i]? = some (some (d,b))->∃v,σ[i]? = some (some v)/\Is K B v d
theorem fE.mono (h:fE K B σ ρ)(e:aU B B'):fE K B' σ ρ:=⟨h.tb.mono e,λi d b q=>let ⟨v,h1,h2⟩:=h.at' i d b q;⟨v,h1,h2.mono e⟩⟩
def Fin (K:Frag)(B H:Hp)(d:D)(b:Bool)(Q:VK):Prop:=∀(v:V)(H' N:Hp),Ext B N H H'->Is K N v d->(b=true->Oo K H N v d)->Q v H'
def tD (K:Frag)(f:FE):TE:=λσ H Q=>∃(B:Hp)(ρ:Env)(d:D)(b:Bool),aU B H/\fE K B σ ρ/\f ρ=some (d,b)/\Fin K B H d b Q
def CN (K:Frag)(f:FT):TT:=λσ H Q=>∃(B:Hp)(ρ:Env)(c:Bool),aU B H/\fE K B σ ρ/\f ρ=some c/\∀H',aU H H'->Q c H'
def Op (K:Frag)(f:FA):TA:=λσ H Q=>∃(B:Hp)(ρ:Env)(ds:List D),aU B H/\fE K B σ ρ/\f ρ=some ds/\∀(vs:List V)(H' N:Hp),Ext B N H H'->IsL K N vs ds->Q vs H'
def rD (K:Frag)(op:D->D->OB):R2:=λx y H Q=>∃(B:Hp)(dx dy d:D)(b:Bool),aU B H/\Is K B x dx/\Is K B y dy/\op dx dy=some (d,b)/\Fin K B H d b Q
def SG (K:Frag)(op:D->OB):V->Hp->VK->Prop:=λx H Q=>∃(B:Hp)(dx d:D)(b:Bool),aU B H/\Is K B x dx/\op dx=some (d,b)/\Fin K B H d b Q
def CO (K:Frag)(op:List D->OB):List V->Hp->VK->Prop:=λxs H Q=>∃(B:Hp)(ds:List D)(d:D)(b:Bool),aU B H/\IsL K B xs ds/\op ds=some (d,b)/\Fin K B H d b Q
theorem Fin.one (h:Fin K B H d false Q)(s:aU B H)(i:Is K B v d):Q v H:=h v H B (.refl s) i (by simp)
theorem Fin.into (h:Fin K B H d b Q)(x:Ext B N H H1):Fin K N H1 d b Q:=λv H' N' y i fr=>h v H' N' (x.trans y) i λe=>(fr e).back x.hh
@[simp] noncomputable def fC (d:D):FE:=λ_=>some (d,false)
@[simp] noncomputable def ai (i:Nat):FE:=λρ=>match ρ[i]? with|some (some (d,_))=>some (d,false)|_=>none
@[simp] noncomputable def f2 (op:D->D->OB)(fa fb:FE):FE:=λρ=>(fa ρ).bind λx=>(fb ρ).bind λy=>op x.1 y.1
@[simp] noncomputable def f1 (op:D->OB)(fa:FE):FE:=λρ=>(fa ρ).bind λx=>op x.1
@[simp] noncomputable def aj:FA:=λ_=>some []
@[simp] noncomputable def af (fa:FE)(fr:FA):FA:=λρ=>(fa ρ).bind λx=>(fr ρ).bind λxs=>some (x.1::xs)
@[simp] noncomputable def fA (op:List D->OB)(fa:FA):FE:=λρ=>(fa ρ).bind op
theorem Mq (h:tD K (ai i) σ H Q):∃v,σ[i]? = some (some v)/\Q v H:=by
 obtain⟨B,ρ,d,b,s,r,e,q⟩:=h;unfold ai at e;split at e
 ·rename_i d' b' e';cases e
  obtain⟨v,h1,h2⟩:=r.at' i _ _ e';exact⟨v,h1,q.one s h2⟩
 ·cases e
theorem HQ (h:tD K (f2 op fa fb) σ H Q):tD K fa σ H λx H1=>tD K fb σ H1 λy H2=>rD K op x y H2 Q:=by
 obtain⟨B,ρ,d,b,s,r,e,q⟩:=h;obtain⟨x,ex,e⟩:=oX e;obtain⟨y,ey,e⟩:=oX e;refine⟨B,ρ,x.1,x.2,s,r,ex,λv H1 N x1 i1 _=>⟨N,ρ,y.1,y.2,x1.nh,r.mono x1.bn,ey,λv2 H2 N2 x2 i2 _=>⟨N2,x.1,y.1,d,b,x2.nh,i1.mono x2.bn,i2,e,?_⟩⟩⟩;exact q.into (x1.trans x2)
theorem SH (h:tD K (f1 op fa) σ H Q):tD K fa σ H λx H1=>SG K op x H1 Q:=by
 obtain⟨B,ρ,d,b,s,r,e,q⟩:=h;obtain⟨x,ex,e⟩:=oX e;exact⟨B,ρ,x.1,x.2,s,r,ex,λv H1 N x1 i1 _=>⟨N,x.1,d,b,x1.nh,i1,e,q.into x1⟩⟩
theorem HR (h:tD K (fA op fa) σ H Q):Op K fa σ H λxs H1=>CO K op xs H1 Q:=by
 obtain⟨B,ρ,d,b,s,r,e,q⟩:=h;obtain⟨x,ex,e⟩:=oX e;exact⟨B,ρ,x,s,r,ex,λv H1 N x1 i1=>⟨N,x,d,b,x1.nh,i1,e,q.into x1⟩⟩
theorem HS (h:Op K aj σ H Q):Q [] H:=by
 obtain⟨B,ρ,ds,s,r,e,q⟩:=h;cases e
 exact q [] H B (.refl s) .nil
theorem E9 (h:Op K (af fa fr) σ H Q):tD K fa σ H λx H1=>Op K fr σ H1 λxs H2=>Q (x::xs) H2:=by
 obtain⟨B,ρ,ds,s,r,e,q⟩:=h;obtain⟨x,ex,e⟩:=oX e;obtain⟨y,ey,e⟩:=oX e;cases e
 exact⟨B,ρ,x.1,x.2,s,r,ex,λv H1 N x1 i1 _=>⟨N,ρ,y,x1.nh,r.mono x1.bn,ey,λvs H2 N2 x2 i2=>q _ H2 N2 (x1.trans x2) (.cons (i1.mono x2.bn) i2)⟩⟩
@[simp] noncomputable def bp (f:FE):FT:=λρ=>match f ρ with|some (.bl c,_)=>some c|_=>none
@[simp] noncomputable def dj (f g:FT):FT:=λρ=>match f ρ with|some true=>g ρ|some false=>some false|none=>none
@[simp] noncomputable def jN (f g:FT):FT:=λρ=>match f ρ with|some true=>some true|some false=>g ρ|none=>none
@[simp] noncomputable def fj (f:FT):FT:=λρ=>(f ρ).map (!·)
@[simp] noncomputable def Zj (c:FT)(f g:FE):FE:=λρ=>match c ρ with|some true=>f ρ|some false=>g ρ|none=>none
open Classical in
noncomputable def dY (H:Hp)(P:Addr->Prop):Hp:=λa=>if P a then none else H a
theorem cO (h:¬P a):dY H P a=H a:=by unfold dY;rw[if_neg h]
theorem zV (h:P a):dY H P a=none:=by unfold dY;rw[if_pos h]
theorem pB (h:dY H P a=some o):¬P a/\H a=some o:=by
 by_cases q:P a
 ·rw[zV q]at h;cases h
 ·rw[cO q]at h;exact⟨q,h⟩
theorem bI:aU (dY H P) H:=λ_ _ e=>(pB e).2
theorem eJ (e:∀a o,H a=some o->¬P a->H' a=some o/\¬P' a):aU (dY H P) (dY H' P'):=λa o q=>by
 obtain⟨h1,h2⟩:=pB q;obtain⟨h3,h4⟩:=e a o h2 h1;rw[cO h4];exact h3
noncomputable def join (N N':Hp):Hp:=λa=>match N a with|some o=>some o|none=>N' a
theorem eQ:aU N (join N N'):=λa o e=>by unfold join;rw[e]
theorem dZ (e:N a=none):join N N' a=N' a:=by unfold join;rw[e]
def own (σ:St)(ρ:Env)(a:Addr):Prop:=∃(i:Nat)(d:D),ρ[i]? = some (some (d,true))/\σ[i]? = some (some (V.ref a))
inductive Bx (K:Frag)(C:Hp):HO->D->Prop where
 |lst {vs:List V}{ds:List D}(h:IsL K C vs ds):Bx K C (.lst vs) (.lst ds)
 |dk {ks:List cw}{vs:List V}{ds:List D}(hl:ks.length=vs.length) (h:IsL K C vs ds) {ob:Obj}:Bx K C (.dK (ks.zip vs) ob) (.dk ks ds)
 |dt {ks:List (List cw)}{vs:List V}{ds:List D}(hl:ks.length=vs.length) (h:IsL K C vs ds):Bx K C (.dT (ks.zip vs)) (.dt ks ds)
theorem Bx.mono (h:Bx K C o d)(e:aU C C'):Bx K C' o d:=by
 cases h with
 |lst h=>exact .lst (h.mono e)
 |dk hl h=>exact .dk hl (h.mono e)
 |dt hl h=>exact .dt hl (h.mono e)
theorem Bx.is (h:Bx K C o d)(e:C a=some o):Is K C (.ref a) d:=by
 cases h with
 |lst h=>exact .lst (iA.of e) h
 |dk hl h=>exact .dk e hl h
 |dt hl h=>exact .dt e hl h
structure eE (K:Frag)(B0 H0 N H:Hp)(σ:St)(ρ:Env):Prop where
 bh:aU B0 H0
 tb:Tb K B0
 ext:Ext B0 N H0 H
 len:ρ.length=σ.length
 sh:∀(i:Nat)(d:D),ρ[i]? = some (some (d,false))->∃v,σ[i]? = some (some v)/\Is K (dY N (own σ ρ)) v d
 ow:∀(i:Nat)(d:D),ρ[i]? = some (some (d,true))->∃(a:Addr)(o:HO),σ[i]? = some (some (V.ref a))/\N a=some o/\H0 a=none/\Bx K (dY N (own σ ρ)) o d
 inj:∀(i j:Nat)(a:Addr)(d e:D),ρ[i]? = some (some (d,true))->ρ[j]? = some (some (e,true))->σ[i]? = some (some (V.ref a))->σ[j]? = some (some (V.ref a))->i=j
def zW (K:Frag)(B0 H0 H:Hp)(σ:St)(ρ:Env):Prop:=∃N,eE K B0 H0 N H σ ρ
section
variable {K:Frag}{B0 H0 N H H':Hp}{σ:St}{ρ:Env}
theorem eE.owL (s:eE K B0 H0 N H σ ρ)(i:Nat)(d:D)(q:ρ[i]? = some (some (.lst es,true)))(hd:d=.lst es:=by rfl):∃(a:Addr)(vs:List V)(ds:List D),d=.lst ds/\σ[i]? = some (some (V.ref a))/\N a=some (.lst vs)/\H0 a=none/\IsL K (dY N (own σ ρ)) vs ds:=by
 obtain⟨a,o,h1,h2,h3,h4⟩:=s.ow i _ q;cases h4 with
 |lst h4=>exact⟨a,_,es,hd,h1,h2,h3,h4⟩
def boxed:HO->Prop
 |.lst _|.dK _ _|.dT _=>True
 |_=>False
theorem Bx.boxed (h:Bx K C o d):boxed o:=by cases h<;>exact trivial
theorem eE.owned (s:eE K B0 H0 N H σ ρ)(h:own σ ρ a):∃o,(N a=some o/\boxed o)/\H0 a=none:=by
 obtain⟨i,d,h1,h2⟩:=h;obtain⟨a',o,h3,h4,h5,h6⟩:=s.ow i d h1;rw[h2]at h3;cases h3;exact⟨o,⟨h4,h6.boxed⟩,h5⟩
theorem eE.rep (s:eE K B0 H0 N H σ ρ):fE K N σ ρ:=⟨s.tb.mono s.ext.bn,λi d b q=>by
 cases b with
 |false=>obtain⟨v,h1,h2⟩:=s.sh i d q;exact⟨v,h1,h2.mono bI⟩
 |true=>
  obtain⟨a,o,h2,h3,_,h4⟩:=s.ow i d q;exact⟨_,h2,(h4.mono bI).is h3⟩⟩
noncomputable def lW (ρ:Env):Env:=ρ.map λx=>match x with|some (d,false)=>some (d,false)|_=>none
theorem EA {i:Nat}{d:D}{b:Bool}(h:(lW ρ)[i]? = some (some (d,b))):b=false/\ρ[i]? = some (some (d,false)):=by
 unfold lW at h;rw[vA]at h;cases e:ρ[i]? with
 |none=>rw[e]at h;cases h
 |some x=>
  rw[e]at h;match x,h with
  |some (d',false),h=>cases h;exact⟨rfl,rfl⟩
  |some (d',true),h=>cases h
  |none,h=>cases h
theorem eE.tbC (s:eE K B0 H0 N H σ ρ):Tb K (dY N (own σ ρ)):=λx hx c P q=>by
 have z:=s.tb.mono s.ext.bn x hx c P q;rw[cO]
 ·exact z
 ·intro y;obtain⟨o,⟨y,yb⟩,_⟩:=s.owned y;rw[z]at y;cases y;exact yb
theorem eE.repH (s:eE K B0 H0 N H σ ρ):fE K (dY N (own σ ρ)) σ (lW ρ):=⟨s.tbC,λi d b q=>by
 obtain⟨rfl,q2⟩:=EA q;exact s.sh i d q2⟩
theorem eE.grow (s:eE K B0 H0 N H σ ρ)(x:Ext N N' H H'):eE K B0 H0 N' H' σ ρ:=by
 have c:aU (dY N (own σ ρ)) (dY N' (own σ ρ)):=eJ λa o e q=>⟨x.bn a o e,q⟩;refine⟨s.bh,s.tb,s.ext.trans x,s.len,λi d q=>?_,λi d q=>?_,s.inj⟩
 ·obtain⟨v,h1,h2⟩:=s.sh i d q;exact⟨v,h1,h2.mono c⟩
 ·obtain⟨a,o,h2,h3,h4,h5⟩:=s.ow i d q;exact⟨a,o,h2,x.bn _ _ h3,h4,h5.mono c⟩
theorem eE.growH (s:eE K B0 H0 N H σ ρ)(x:Ext (dY N (own σ ρ)) N' H H'):eE K B0 H0 (join N N') H' σ ρ/\aU N' (dY (join N N') (own σ ρ)):=by
 have x':Ext N (join N N') H H':=by
  refine⟨x.hh,eQ,λa o e=>?_,λa o e=>?_⟩
  ·cases q:N a with
   |some u=>
    have:join N N' a=some u:=eQ _ _ q;rw[this]at e;cases e;exact x.hh _ _ (s.ext.nh _ _ q)
   |none=>rw[dZ q]at e;exact x.nh _ _ e
  ·cases q:N a with
   |some u=>
    have:join N N' a=some u:=eQ _ _ q;rw[this]at e;cases e;exact .inl rfl
   |none=>
    rw[dZ q]at e;rcases x.new a o e with z|z
    ·have:=bI _ _ z;rw[q]at this;cases this
    ·exact .inr z
 refine⟨s.grow x',λa o e=>?_⟩;rcases x.new a o e with z|z
 ·obtain⟨z1,z2⟩:=pB z;rw[cO z1];exact eQ _ _ z2
 ·have hN:N a=none:=s.ext.nh.free z;have:¬own σ ρ a:=λq=>by obtain⟨vs,⟨q,_⟩,_⟩:=s.owned q;rw[hN]at q;cases q
  rw[cO this,dZ hN];exact e
noncomputable def unown (ρ:Env):Env:=ρ.map λx=>x.map λy=>(y.1,false)
theorem k9 {i:Nat}{d:D}{b:Bool}(h:(unown ρ)[i]? = some (some (d,b))):b=false/\∃c,ρ[i]? = some (some (d,c)):=by
 unfold unown at h;rw[vA]at h;cases e:ρ[i]? with
 |none=>rw[e]at h;cases h
 |some x=>
  rw[e]at h;match x,h with
  |some (d',c),h=>cases h;exact⟨rfl,c,rfl⟩
  |none,h=>cases h
theorem sQ {a:Addr}:¬own σ (unown ρ) a:=λ⟨i,d,h,_⟩=>by
 obtain⟨z,_⟩:=k9 h;cases z
theorem eE.unown (s:eE K B0 H0 N H σ ρ):eE K B0 H0 N H σ (unown ρ):=by
 refine⟨s.bh,s.tb,s.ext,by unfold DL.unown;rw[vI];exact s.len,λi d q=>?_,λi d q=>?_,λi j a d e q=>?_⟩
 ·obtain⟨_,c,q⟩:=k9 q;obtain⟨v,h1,h2⟩:=s.rep.at' i d c q;exact⟨v,h1,h2.mono λa o e=>by rw[cO sQ];exact e⟩
 ·obtain⟨z,_⟩:=k9 q;cases z
 ·obtain⟨z,_⟩:=k9 q;cases z
theorem bW {α:Type}{l:List α}{i j:Nat}{x y:α}(h:(l.set i x)[j]? = some y):(i=j/\x=y)∨(i≠j/\l[j]? = some y):=by
 by_cases e:i=j
 ·subst e;rw[List.getElem?_set]at h;split at h
  ·split at h
   ·exact .inl ⟨rfl,vK h⟩
   ·cases h
  ·contradiction
 ·rw[vB e]at h;exact .inr ⟨e,h⟩
theorem sR {α β:Type}{l:List α}{m:List β}{i:Nat}{x y:α}(h:(l.set i x)[i]? = some y)(e:l.length=m.length):i<m.length:=by
 obtain⟨h,_⟩:=vV h;rw[List.length_set]at h;omega
theorem uL {i:Nat}{v:V}{x:OB}{a:Addr}(h:own (σ.set i (some v)) (ρ.set i x) a):(v=.ref a/\∃d,x=some (d,true))∨∃j,j≠i/\∃d,ρ[j]? = some (some (d,true))/\σ[j]? = some (some (V.ref a)):=by
 obtain⟨j,d,h1,h2⟩:=h;rcases bW h1 with⟨e,q⟩|⟨e,q⟩
 ·rcases bW h2 with⟨e2,q2⟩|⟨e2,q2⟩
  ·cases q2;exact .inl ⟨rfl,d,q⟩
  ·exact absurd e e2
 ·rcases bW h2 with⟨e2,q2⟩|⟨e2,q2⟩
  ·exact absurd e2 e
  ·exact .inr ⟨j,λz=>e z.symm,d,q,q2⟩
theorem eE.bind (s:eE K B0 H0 N H σ ρ){i:Nat}{v:V}{d:D}(h:Is K (dY N (own σ ρ)) v d):eE K B0 H0 N H (σ.set i (some v)) (ρ.set i (some (d,false))):=by
 have o:∀a,own (σ.set i (some v)) (ρ.set i (some (d,false))) a->own σ ρ a:=λa q=>by
  rcases uL q with⟨_,d',p⟩|⟨j,_,d',q1,q2⟩
  ·cases p
  ·exact⟨j,d',q1,q2⟩
 have c:aU (dY N (own σ ρ)) (dY N (own (σ.set i (some v)) (ρ.set i (some (d,false))))):=eJ λa u e q=>⟨e,λz=>q (o a z)⟩;refine⟨s.bh,s.tb,s.ext,by simp[s.len],λj e q=>?_,λj e q=>?_,λj k a e f q q' h1 h2=>?_⟩
 ·rcases bW q with⟨rfl,p⟩|⟨ne,p⟩
  ·cases p
   have hi:=sR q s.len;exact⟨v,by simp[hi],h.mono c⟩
  ·obtain⟨w,h1,h2⟩:=s.sh j e p;exact⟨w,by rw[vB ne];exact h1,h2.mono c⟩
 ·rcases bW q with⟨rfl,p⟩|⟨ne,p⟩
  ·cases p
  ·obtain⟨a,o,h1,h2,h3,h4⟩:=s.ow j e p;exact⟨a,o,by rw[vB ne];exact h1,h2,h3,h4.mono c⟩
 ·rcases bW q with⟨rfl,p⟩|⟨ne,p⟩
  ·cases p
  ·rcases bW q' with⟨rfl,p'⟩|⟨Q7,p'⟩
   ·cases p'
   ·rw[vB ne]at h1;rw[vB Q7]at h2;exact s.inj j k a e f p p' h1 h2
theorem eE.bindOwn (s:eE K B0 H0 N H σ ρ){i:Nat}{a:Addr}{ob:HO}{dd:D}(hN:N a=some ob)(h0:H0 a=none)(O9:∀(j:Nat)(d:D),ρ[j]? = some (some (d,true))->σ[j]? ≠ some (some (V.ref a)))
  (TB:∀(j:Nat)(d:D),j≠i->ρ[j]? = some (some (d,false))->∃v,σ[j]? = some (some v)/\Is K (dY N (λb=>own σ ρ b∨b=a)) v d) (X2:∀(j:Nat)(d:D),j≠i->ρ[j]? = some (some (d,true))->∃(a':Addr)(o:HO),σ[j]? = some (some (V.ref a'))/\N a'=some o/\Bx K (dY N (λb=>own σ ρ b∨b=a)) o d)
  (NB:Bx K (dY N (λb=>own σ ρ b∨b=a)) ob dd):eE K B0 H0 N H (σ.set i (some (.ref a))) (ρ.set i (some (dd,true))):=by
 have o:∀b,own (σ.set i (some (V.ref a))) (ρ.set i (some (dd,true))) b->own σ ρ b∨b=a:=λb q=>by
  rcases uL q with⟨p,_⟩|⟨j,_,d',q1,q2⟩
  ·cases p;exact .inr rfl
  ·exact .inl ⟨j,d',q1,q2⟩
 have c:aU (dY N (λb=>own σ ρ b∨b=a)) (dY N (own (σ.set i (some (V.ref a))) (ρ.set i (some (dd,true))))):=eJ λb u e q=>⟨e,λz=>q (o b z)⟩;refine⟨s.bh,s.tb,s.ext,by simp[s.len],λj e q=>?_,λj e q=>?_,λj k b e f q q' h1 h2=>?_⟩
 ·rcases bW q with⟨rfl,p⟩|⟨ne,p⟩
  ·cases p
  ·obtain⟨w,h1,h2⟩:=TB j e (Ne.symm ne) p;exact⟨w,by rw[vB ne];exact h1,h2.mono c⟩
 ·rcases bW q with⟨rfl,p⟩|⟨ne,p⟩
  ·cases p
   have hi:=sR q s.len;exact⟨a,ob,by simp[hi],hN,h0,NB.mono c⟩
  ·obtain⟨a',o',h1,h2,h4⟩:=X2 j e (Ne.symm ne) p;have h3:H0 a'=none:=by
    obtain⟨a2,_,k1,_,k3,_⟩:=s.ow j e p;rw[h1]at k1;cases k1;exact k3
   exact⟨a',o',by rw[vB ne];exact h1,h2,h3,h4.mono c⟩
 ·rcases bW q with⟨rfl,p⟩|⟨ne,p⟩
  ·rcases bW q' with⟨rfl,p'⟩|⟨Q7,p'⟩
   ·rfl
   ·rw[vB Q7]at h2;have RS:V.ref a=V.ref b:=by
     rcases bW h1 with⟨_,z⟩|⟨z,_⟩
     ·exact vK z
     ·exact absurd rfl z
    cases RS
    exact absurd h2 (O9 k f p')
  ·rcases bW q' with⟨rfl,p'⟩|⟨Q7,p'⟩
   ·rw[vB ne]at h1;have GO:V.ref a=V.ref b:=by
     rcases bW h2 with⟨_,z⟩|⟨z,_⟩
     ·exact vK z
     ·exact absurd rfl z
    cases GO
    exact absurd h1 (O9 j e p)
   ·rw[vB ne]at h1;rw[vB Q7]at h2;exact s.inj j k b e f p p' h1 h2
end
inductive Res where
 |nx (ρ:Env)|rt (d:D) (b:Bool)|bk (ρ:Env)|ct (ρ:Env)
abbrev FS:=Env->Option Res
def P7 (K:Frag)(B0 H0:Hp)(E:Ends):Res->Prop
 |.nx ρ=>∀σ H,zW K B0 H0 H σ ρ->E.nx σ H
 |.rt d b=>∀v H N,Ext B0 N H0 H->Is K N v d->(b=true->Oo K H0 N v d)->E.rt v H
 |.bk ρ=>∀σ H,zW K B0 H0 H σ ρ->E.bk σ H
 |.ct ρ=>∀σ H,zW K B0 H0 H σ ρ->E.ct σ H
def nV (K:Frag)(g:FS):TS:=λE σ H=>∃(B0 H0:Hp)(ρ:Env)(r:Res),zW K B0 H0 H σ ρ/\g ρ=some r/\P7 K B0 H0 E r
section
variable {K:Frag}{B0 H0 N H H':Hp}{σ:St}{ρ:Env}{E:Ends}
theorem eE.writeB (s:eE K B0 H0 N H σ ρ)(hi:ρ[i]? = some (some (d,true)))(hσ:σ[i]? = some (some (V.ref a)))(h:Bx K (dY N (own σ ρ)) ob dd):
  eE K B0 H0 (upd N a ob) (upd H a ob) σ (ρ.set i (some (dd,true))):=by
 have oa:own σ ρ a:=⟨i,d,hi,hσ⟩;obtain⟨ws,hw,h0⟩:=s.owned oa;have b0:B0 a=none:=s.bh.free h0;have o:∀b,own σ (ρ.set i (some (dd,true))) b↔own σ ρ b:=λb=>by
  constructor
  ·rintro⟨j,e,q1,q2⟩;rcases bW q1 with⟨rfl,p⟩|⟨_,p⟩
   ·exact⟨i,d,hi,q2⟩
   ·exact⟨j,e,p,q2⟩
  ·rintro⟨j,e,q1,q2⟩;by_cases z:i=j
   ·subst z;exact⟨i,dd,by rw[List.getElem?_set_self (vV hi).1],q2⟩
   ·exact⟨j,e,by rw[vB z];exact q1,q2⟩
 have c:aU (dY N (own σ ρ)) (dY (upd N a ob) (own σ (ρ.set i (some (dd,true))))):=eJ λb u e q=>by
  have ne:b≠a:=λz=>q (z ▸ oa);exact⟨by rw[aH ne];exact e,λz=>q ((o b).mp z)⟩
 refine⟨s.bh,s.tb,⟨λb u e=>?_,λb u e=>?_,λb u e=>?_,λb u e=>?_⟩,by rw[List.length_set];exact s.len,λj e q=>?_,λj e q=>?_,λj k b e f q q' h1 h2=>?_⟩
 ·rw[aH (λz=>by subst z;rw[h0]at e;cases e)];exact s.ext.hh _ _ e
 ·rw[aH (λz=>by subst z;rw[b0]at e;cases e)];exact s.ext.bn _ _ e
 ·by_cases z:b=a
  ·subst z;rw[aE]at e ⊢;exact e
  ·rw[aH z]at e ⊢;exact s.ext.nh _ _ e
 ·by_cases z:b=a
  ·subst z;exact .inr h0
  ·rw[aH z]at e;exact s.ext.new _ _ e
 ·rcases bW q with⟨rfl,p⟩|⟨ne,p⟩
  ·cases p
  ·obtain⟨v,h1,h2⟩:=s.sh j e p;exact⟨v,h1,h2.mono c⟩
 ·rcases bW q with⟨rfl,p⟩|⟨ne,p⟩
  ·cases p
   exact⟨a,ob,hσ,aE,h0,h.mono c⟩
  ·obtain⟨a',o',h1,h2,h3,h4⟩:=s.ow j e p;have na:a'≠a:=λz=>by subst z;exact ne (s.inj i j _ d e hi p hσ h1)
   exact⟨a',o',h1,by rw[aH na];exact h2,h3,h4.mono c⟩
 ·have get:∀ {j:Nat}{e:D},(ρ.set i (some (dd,true)))[j]? = some (some (e,true))->∃e',ρ[j]? = some (some (e',true)):=λ{j e} q=>by
   rcases bW q with⟨rfl,p⟩|⟨ne,p⟩
   ·exact⟨d,hi⟩
   ·exact⟨e,p⟩
  obtain⟨e',q1⟩:=get q;obtain⟨f',q2⟩:=get q';exact s.inj j k b e' f' q1 q2 h1 h2
theorem eE.write (s:eE K B0 H0 N H σ ρ)(hi:ρ[i]? = some (some (d,true)))(hσ:σ[i]? = some (some (V.ref a)))(h:IsL K (dY N (own σ ρ)) vs ds):
  eE K B0 H0 (upd N a (.lst vs)) (upd H a (.lst vs)) σ (ρ.set i (some (.lst ds,true))):=s.writeB hi hσ (.lst h)
theorem eE.tups (s:eE K B0 H0 N H σ ρ):∀a vs,iZ K N a vs->iZ K (dY N (own σ ρ)) a vs:=λa vs h=>by
 have key:∀u,N a=some u->¬boxed u->dY N (own σ ρ) a=some u:=λu e hu=>by
  rw[cO λz=>?_];exact e;obtain⟨ws,⟨q,qb⟩,_⟩:=s.owned z;rw[e]at q;cases q;exact hu qb
 rcases h with (h|⟨o,h⟩)|h
 ·exact .inl (.inl (key _ h (λq=>q)))
 ·exact .inl (.inr ⟨o,key _ h (λq=>q)⟩)
 ·exact .inr h
theorem eE.flat (s:eE K B0 H0 N H σ ρ)(h:Is K N v d)(n:bu d=true):Is K (dY N (own σ ρ)) v d:=h.keepT s.tups n
theorem eE.rebase (s:eE K B0 H0 N H σ ρ):eE K (dY N (own σ ρ)) (dY H (own σ ρ)) N H σ ρ :=
 ⟨eJ λa o e q=>⟨s.ext.nh _ _ e,q⟩,s.tbC,⟨bI,bI,s.ext.nh,λa o e=>by
  by_cases q:own σ ρ a
  ·exact .inr (zV q)
  ·exact .inl (by rw[cO q];exact e)⟩,s.len,s.sh,λi d q=>by
   obtain⟨a,o,h1,h2,_,h4⟩:=s.ow i d q;exact⟨a,o,h1,h2,zV ⟨i,d,q,h1⟩,h4⟩,s.inj⟩
theorem eE.unbase (s:eE K B0 H0 N H σ ρ)(t:eE K (dY N (own σ ρ)) (dY H (own σ ρ)) N' H' σ' ρ'):eE K B0 H0 N' H' σ' ρ':=by
 have h0:aU H0 (dY H (own σ ρ)):=λa o e=>by
  rw[cO λz=>?_];exact s.ext.hh _ _ e;obtain⟨_,_,q⟩:=s.owned z;rw[q]at e;cases e
 have b0:aU B0 (dY N (own σ ρ)):=λa o e=>by
  rw[cO λz=>?_];exact s.ext.bn _ _ e;obtain⟨_,_,q⟩:=s.owned z;rw[s.bh _ _ e]at q;cases q
 refine⟨s.bh,s.tb,⟨h0.trans t.ext.hh,b0.trans t.ext.bn,t.ext.nh,λa o e=>?_⟩,t.len,t.sh,λi d q=>?_,t.inj⟩
 ·rcases t.ext.new a o e with z|z
  ·exact s.ext.new a o (bI _ _ z)
  ·exact .inr (h0.free z)
 ·obtain⟨a,o,h1,h2,h3,h4⟩:=t.ow i d q;exact⟨a,o,h1,h2,h0.free h3,h4⟩
theorem eE.based (t:eE K B0 H0 N H σ ρ):aU B0 (dY N (own σ ρ)):=λa o e=>by
 rw[cO λz=>?_];exact t.ext.bn _ _ e;obtain⟨_,_,q⟩:=t.owned z;rw[t.bh _ _ e]at q;cases q
@[simp] noncomputable def a8 (g h:FS):FS:=λρ=>match g ρ with|some (.nx ρ')=>h ρ'|r=>r
@[simp] noncomputable def bo:FS:=λρ=>some (.nx ρ)
@[simp] noncomputable def eO (c:FT)(g h:FS):FS:=λρ=>match c ρ with|some true=>g ρ|some false=>h ρ|none=>none
@[simp] noncomputable def aZ (f:FE):FS:=λρ=>(f ρ).map λx=>.rt x.1 x.2
@[simp] noncomputable def UT:FS:=λ_=>some (.rt .non false)
@[simp] noncomputable def UU (f:FE):FS:=λρ=>(f ρ).map λ_=>.nx ρ
@[simp] noncomputable def Ks:D->Bool
 |.dk _ _=>true
 |.dt _ _=>true
 |_=>false
@[simp] def jH (i:Nat):FS:=λρ=>match ρ[i]? with|some (some (d,b))=>some (.rt d (b && !Ks d))|_=>none
@[simp] def Bb:D->Bool
 |.lst ds=>bx ds
 |_=>false
@[simp] def setE (ρ:Env)(i:Nat)(d:D)(b:Bool):Env :=
 if bu d=true then ρ.set i (some (d,false))else if b=true/\Bb d=true then ρ.set i (some (d,true))else (unown ρ).set i (some (d,false))
@[simp] def aQ (i:Nat)(f:FE):FS:=λρ=>(f ρ).map λx=>.nx (setE ρ i x.1 x.2)
@[simp] def xm (i:Nat)(f:FE):FS:=λρ=>(f (lW ρ)).map λx=>.nx (ρ.set i (some (x.1,false)))
@[simp] def jV (i:Nat)(f:FE):FS:=λρ=>match ρ[i]? with
 |some (some (.lst ds,true))=>(f ρ).bind λx=>if bu x.1=true/\ds.length<sizeLine then some (.nx (ρ.set i (some (.lst (ds++[x.1]),true))))else none
 |_=>none
theorem HU (q:nV K (a8 g h) E σ H):OX (nV K g) (nV K h) E σ H:=by
 obtain⟨B0,H0,ρ,r,s,e,p⟩:=q;unfold a8 at e;cases eg:g ρ with
 |none=>rw[eg]at e;cases e
 |some r1=>
  rw[eg]at e;cases r1 with
  |nx ρ'=>exact⟨B0,H0,ρ,.nx ρ',s,eg,λσ' H' s'=>⟨B0,H0,ρ',r,s',e,p⟩⟩
  |rt d b=>cases e;exact⟨B0,H0,ρ,_,s,eg,p⟩
  |bk ρ'=>cases e;exact⟨B0,H0,ρ,_,s,eg,p⟩
  |ct ρ'=>cases e;exact⟨B0,H0,ρ,_,s,eg,p⟩
theorem EB (q:nV K bo E σ H):Kf E σ H:=by
 obtain⟨B0,H0,ρ,r,s,e,p⟩:=q;cases e
 exact p σ H s
theorem zW.grown (s:eE K B0 H0 N H σ ρ)(h:aU H H'):zW K B0 H0 H' σ ρ:=⟨N,s.grow (.grow s.ext.nh h)⟩
theorem Mr (q:nV K (eO c g h) E σ H):Pa (CN K c) (nV K g) (nV K h) E σ H:=by
 obtain⟨B0,H0,ρ,r,⟨N,s⟩,e,p⟩:=q;unfold eO at e;cases ec:c ρ with
 |none=>rw[ec]at e;cases e
 |some b=>
  rw[ec]at e;refine⟨N,ρ,b,s.ext.nh,s.rep,ec,λH1 h1=>?_⟩;cases b with
  |true=>rw[if_pos rfl];exact⟨B0,H0,ρ,r,.grown s h1,e,p⟩
  |false=>rw[if_neg (by decide)];exact⟨B0,H0,ρ,r,.grown s h1,e,p⟩
theorem HV (q:nV K (aZ f) E σ H):LM (tD K f) E σ H:=by
 obtain⟨B0,H0,ρ,r,⟨N,s⟩,e,p⟩:=q;obtain⟨x,ex,e⟩:=oY e;subst e;exact⟨N,ρ,x.1,x.2,s.ext.nh,s.rep,ex,λv H1 N1 x1 i1 f1=>p v H1 N1 (s.ext.trans x1) i1 λb=>(f1 b).back s.ext.hh⟩
theorem EC (q:nV K (jH i) E σ H):LM (Eo i) E σ H:=by
 obtain⟨B0,H0,ρ,r,⟨N,s⟩,e,p⟩:=q;unfold jH at e;split at e
 ·rename_i d b ei;cases e
  cases b with
  |false=>
   obtain⟨v,h1,h2⟩:=s.sh i d ei;exact⟨v,h1,p v H N s.ext (h2.mono bI) (by simp)⟩
  |true=>
   obtain⟨a,o,h1,h2,h3,h4⟩:=s.ow i d ei;cases h4 with
   |lst h4=>exact⟨_,h1,p _ H N s.ext (.lst (iA.of h2) (h4.mono bI)) λ_=>⟨a,_,_,rfl,rfl,h3,h2,h4.mono bI⟩⟩
   |dk hl h4=>exact⟨_,h1,p _ H N s.ext (.dk h2 hl (h4.mono bI)) (by simp)⟩
   |dt hl h4=>exact⟨_,h1,p _ H N s.ext (.dt h2 hl (h4.mono bI)) (by simp)⟩
 ·cases e
theorem eE.setE (s:eE K B0 H0 N H σ ρ)(x:Ext N N1 H H1)(h:Is K N1 v d)(f:b=true->Oo K H N1 v d):eE K B0 H0 N1 H1 (σ.set i (some v)) (setE ρ i d b):=by
 have s1:=s.grow x;unfold DL.setE;by_cases hn:bu d=true
 ·rw[if_pos hn];exact s1.bind (s1.flat h hn)
 ·rw[if_neg hn];by_cases hb:b=true/\Bb d=true
  ·rw[if_pos hb];obtain⟨a,vs,ds,rfl,rfl,ha,hN,hs⟩:=f hb.1;have Vz:N a=none:=s.ext.nh.free ha;have TD:¬own σ ρ a:=λz=>by obtain⟨ws,⟨q,_⟩,_⟩:=s.owned z;rw[Vz]at q;cases q
   have c:aU (dY N (own σ ρ)) (dY N1 (λb=>own σ ρ b∨b=a)):=eJ λb u e q=>⟨x.bn _ _ e,λz=>z.elim q λz=>by subst z;rw[Vz]at e;cases e⟩;refine s1.bindOwn hN (s.ext.hh.free ha) (λj e q z=>TD ⟨j,e,q,z⟩) (λj e _ q=>?_) (λj e _ q=>?_) (.lst (hs.keepT (λt ts st=>?_) hb.2))
   ·obtain⟨w,h1,h2⟩:=s.sh j e q;exact⟨w,h1,h2.mono c⟩
   ·obtain⟨a',o',h1,h2,_,h4⟩:=s.ow j e q;exact⟨a',o',h1,x.bn _ _ h2,h4.mono c⟩
   ·have key:∀u,N1 t=some u->¬boxed u->dY N1 (λb=>own σ ρ b∨b=a) t=some u:=λu e hu=>by
     rw[cO λz=>?_];exact e;rcases z with z|z
     ·obtain⟨ws,⟨q,qb⟩,_⟩:=s1.owned z;rw[e]at q;cases q;exact hu qb
     ·subst z;rw[e]at hN;cases hN;exact hu trivial
    rcases st with (st|⟨o,st⟩)|st
    ·exact .inl (.inl (key _ st (λq=>q)))
    ·exact .inl (.inr ⟨o,key _ st (λq=>q)⟩)
    ·exact .inr st
  ·rw[if_neg hb];exact s1.unown.bind (h.mono λa o e=>by rw[cO sQ];exact e)
theorem Bc (q:nV K (aQ i f) E σ H):zE (tD K f) (jF i) E σ H:=by
 obtain⟨B0,H0,ρ,r,⟨N,s⟩,e,p⟩:=q;obtain⟨x,ex,e⟩:=oY e;subst e;exact⟨N,ρ,x.1,x.2,s.ext.nh,s.rep,ex,λv H1 N1 x1 i1 f1=>p _ H1 ⟨N1,s.setE x1 i1 f1⟩⟩
theorem ED (q:nV K (xm i f) E σ H):zE (tD K f) (jF i) E σ H:=by
 obtain⟨B0,H0,ρ,r,⟨N,s⟩,e,p⟩:=q;obtain⟨x,ex,e⟩:=oY e;subst e;refine⟨dY N (own σ ρ),lW ρ,x.1,x.2,bI.trans s.ext.nh,s.repH,ex,λv H1 N1 x1 i1 f1=>?_⟩;obtain⟨s1,c⟩:=s.growH x1;exact p _ H1 ⟨_,s1.bind (i1.mono c)⟩
theorem HW (q:nV K (jV i f) E σ H):∃(a:Addr)(us:List V),σ[i]? = some (some (V.ref a))/\H a=some (.lst us)/\Kl (tD K f) Pr σ H λxs H2=>AX (.ref a) xs H2 λ_ H3=>E.nx σ H3:=by
 obtain⟨B0,H0,ρ,r,⟨N,s⟩,e,p⟩:=q;unfold jV at e;split at e
 ·rename_i ds ei;obtain⟨x,ex,e⟩:=oX e;split at e
  ·rename_i hx;cases e
   obtain⟨a,vs,JV,z,h1,h2,h3,h4⟩:=s.owL i _ ei;cases z
   refine⟨a,vs,h1,s.ext.nh _ _ h2,N,ρ,x.1,x.2,s.ext.nh,s.rep,ex,λv H1 N1 x1 i1 f1=>⟨a,vs,v,rfl,rfl,x1.hh _ _ (s.ext.nh _ _ h2),by rw[h4.length];exact hx.2,?_⟩⟩;have s1:=s.grow x1;obtain⟨a',RT,JV,z,k1,k2,_,k4⟩:=s1.owL i _ ei;cases z
   rw[h1]at k1;cases k1;rw[x1.bn _ _ h2]at k2;cases k2;exact p σ _ ⟨_,s1.write ei h1 (k4.append (.cons (s1.flat i1 hx.1) .nil))⟩
  ·cases e
 ·cases e
end
noncomputable def EE (c:FT)(g:FS):Nat->Env->Option Res
 |0,_=>none
 |n+1,ρ=>match c ρ with
  |some true=>match g ρ with
   |some (.nx ρ')=>EE c g n ρ'
   |some (.ct ρ')=>EE c g n ρ'
   |some (.bk ρ')=>some (.nx ρ')
   |r=>r
  |some false=>some (.nx ρ)
  |none=>none
def oH (K:Frag)(J:It)(B:Hp)(ds:List D):Prop:=∀(i:Nat)(H:Hp),aU B H ->
 (∀d,ds[i]? = some d->J.go i H/\∀x H',J.yld i H x H'->∃N,Ext B N H H'/\Is K N x d)/\(ds.length<=i->J.stop i H)
def UV (K:Frag)(f:FA):TI:=λσ H R=>∃(B:Hp)(ρ:Env)(ds:List D),aU B H/\fE K B σ ρ/\f ρ=some ds/\∀(J:It)(H' N:Hp),Ext B N H H'->oH K J N ds->R J H'
abbrev FG:=D->Env->Option Env
def HX (K:Frag)(tg:FG)(g:TG):Prop:=∀(B0 H0 N H:Hp)(σ:St)(ρ ρ':Env)(v:V)(d:D)(Q:St->Hp->Prop),eE K B0 H0 N H σ ρ->Is K (dY N (own σ ρ)) v d->tg d ρ=some ρ' ->
 (∀σ' H',zW K B0 H0 H' σ' ρ'->Q σ' H')->g v σ H Q
@[simp] noncomputable def dE (i:Nat):FG:=λd ρ=>some (ρ.set i (some (d,false)))
theorem ge:HX K (dE i) (jF i):=by
 intro B0 H0 N H σ ρ ρ' v d Q s h e k;cases e
 exact k _ H ⟨N,s.bind h⟩
noncomputable def iC (tg:FG)(g:FS):List D->Env->Option Res
 |[],ρ=>some (.nx ρ)
 |d::ds,ρ=>(tg d ρ).bind λρ1=>match g ρ1 with
  |some (.nx ρ')=>iC tg g ds ρ'
  |some (.ct ρ')=>iC tg g ds ρ'
  |some (.bk ρ')=>some (.nx ρ')
  |r=>r
@[simp] theorem EF (tg:FG)(g:FS)(ρ:Env):iC tg g [] ρ=some (.nx ρ):=by rw[iC]
@[simp] theorem CP (tg:FG)(g:FS)(d:D)(ds:List D)(ρ:Env):iC tg g (d::ds) ρ=(tg d ρ).bind λρ1=>match g ρ1 with
  |some (.nx ρ')=>iC tg g ds ρ'
  |some (.ct ρ')=>iC tg g ds ρ'
  |some (.bk ρ')=>some (.nx ρ')
  |r=>r:=by rw[iC]
@[simp] def pC (f:FA)(tg:FG)(g:FS):FS:=λρ=>(f (lW ρ)).bind λds=>iC tg g ds ρ
theorem xn (ht:HX K tg t)(s1:eE K B0 H0 N H1 σ ρ)(c:aU N1 (dY N (own σ ρ)))(J1:oH K J N1 ds)(e:iC tg g ds ρ=some r)(p:P7 K B0 H0 E r):
  ∃W:Nat->Nat->St->Hp->Prop,(∃m,W 0 m σ H1)/\∀i m σ H,W i m σ H->(J.stop i H/\E.nx σ H)∨(J.go i H/\∃N:St->Hp->Prop,(∀σ' H',N σ' H'->∃m',m'<m/\W (i+1) m' σ' H')/\∀x H',J.yld i H x H'->t x σ H' λσ2 H2=>nV K g { E with nx:=N,ct:=N,bk:=E.nx } σ2 H2):=by
 refine⟨λi m σ H=>∃(N:Hp)(ρ:Env),eE K B0 H0 N H σ ρ/\aU N1 (dY N (own σ ρ))/\m=ds.length - i/\i<=ds.length/\iC tg g (ds.drop i) ρ=some r,⟨ds.length,_,ρ,s1,c,rfl,uN _,e⟩,?_⟩;clear e s1 c;rintro i m σ H ⟨N,ρ,s,c,rfl,hi,e⟩;have hs:aU N1 H:=c.trans (bI.trans s.ext.nh);obtain⟨j1,j2⟩:=J1 i H hs;by_cases fG:i<ds.length
 ·obtain⟨go,yl⟩:=j1 ds[i] (by simp[fG]);rw[List.drop_eq_getElem_cons fG]at e;obtain⟨ρ1,e1,e⟩:=oX e;refine .inr ⟨go,λσ' H'=>∃(N:Hp)(ρ:Env),eE K B0 H0 N H' σ' ρ/\aU N1 (dY N (own σ' ρ))/\iC tg g (ds.drop (i+1)) ρ=some r,λσ' H' ⟨N',ρ',s',c',e'⟩=>⟨_,by omega,N',ρ',s',c',rfl,fG,e'⟩,λx H' y=>?_⟩;obtain⟨N2,x2,i2⟩:=yl x H' y;have x3:Ext (dY N (own σ ρ)) (join (dY N (own σ ρ)) N2) H H':=by
   refine⟨x2.hh,eQ,λa o e=>?_,λa o e=>?_⟩
   ·cases q:dY N (own σ ρ) a with
    |some u=>rw[eQ _ _ q]at e;cases e;exact x2.hh _ _ (s.ext.nh _ _ (bI _ _ q))
    |none=>rw[dZ q]at e;exact x2.nh _ _ e
   ·cases q:dY N (own σ ρ) a with
    |some u=>rw[eQ _ _ q]at e;cases e;exact .inl rfl
    |none=>
     rw[dZ q]at e;rcases x2.new a o e with z|z
     ·rw[c _ _ z]at q;cases q
     ·exact .inr z
  obtain⟨s2,c2⟩:=s.growH x3;have c3:aU N2 (join (dY N (own σ ρ)) N2):=λa o e=>by
   rcases x2.new a o e with z|z
   ·exact eQ _ _ (c _ _ z)
   ·rw[dZ ((bI.trans s.ext.nh).free z)];exact e
  have i3:=i2.mono (c3.trans c2);have c4:aU N1 (dY (join N (join (dY N (own σ ρ)) N2)) (own σ ρ)):=(x2.bn.trans c3).trans c2;refine ht _ _ _ _ _ _ _ _ _ _ s2.rebase i3 e1 λσ2 H2 ⟨N4,s4⟩=>?_;cases eg:g ρ1 with
  |none=>rw[eg]at e;cases e
  |some r1=>
   rw[eg]at e;refine⟨_,_,ρ1,r1,⟨N4,s4⟩,eg,?_⟩;have back:∀ {σ':St}{H':Hp}{ρ':Env}{N':Hp},eE K _ _ N' H' σ' ρ'->eE K B0 H0 N' H' σ' ρ'/\aU N1 (dY N' (own σ' ρ')):=λt=>⟨s2.unbase t,c4.trans t.based⟩;cases r1 with
   |nx ρ'=>exact λσ' H' ⟨N',t⟩=>⟨N',ρ',(back t).1,(back t).2,e⟩
   |ct ρ'=>exact λσ' H' ⟨N',t⟩=>⟨N',ρ',(back t).1,(back t).2,e⟩
   |bk ρ'=>cases e;exact λσ' H' ⟨N',t⟩=>p σ' H' ⟨N',(back t).1⟩
   |rt d b=>
    cases e
    intro v H' N' x' i' f';have y:=s2.rebase.ext;have h0:aU H0 (dY H' (λ_=>False)):=λa o e=>by rw[cO (λz=>z)];exact x'.hh _ _ (by
     rw[cO λz=>?_];exact s2.ext.hh _ _ e;obtain⟨_,_,q⟩:=s2.owned z;rw[q]at e;cases e)
    have Zr:aU H0 (dY H' (λ_=>False)):=h0;have hH:aU H0 (dY H' (λ_=>False)):=h0;have hc:∀a,dY H' (λ_=>False) a=H' a:=λa=>cO (λz=>z);have hb:aU H0 (dY _ (own σ ρ)):=λa o e=>by
     rw[cO λz=>?_];exact s2.ext.hh _ _ e;obtain⟨_,_,q⟩:=s2.owned z;rw[q]at e;cases e
    have bb:aU B0 (dY _ (own σ ρ)):=λa o e=>by
     rw[cO λz=>?_];exact s2.ext.bn _ _ e;obtain⟨_,_,q⟩:=s2.owned z;rw[s2.bh _ _ e]at q;cases q
    refine p v H' N' ⟨hb.trans x'.hh,bb.trans x'.bn,x'.nh,λa o e=>?_⟩ i' λz=>(f' z).back hb;rcases x'.new a o e with z|z
    ·exact s2.ext.new a o (bI _ _ z)
    ·exact .inr (hb.free z)
 ·have ei:i=ds.length:=by omega
  subst ei;rw[List.drop_eq_nil_of_le (vT _)]at e;cases e
  exact .inl ⟨j2 (vT _),p σ H ⟨N,s⟩⟩
theorem HY (ht:HX K tg t)(q:nV K (pC f tg g) E σ H):LU (UV K f) t (nV K g) E σ H:=by
 obtain⟨B0,H0,ρ,r,⟨N,s⟩,e,p⟩:=q;obtain⟨ds,ef,e⟩:=oX e;refine⟨dY N (own σ ρ),lW ρ,ds,bI.trans s.ext.nh,s.repH,ef,λJ H1 N1 x1 J1=>?_⟩;obtain⟨s1,c⟩:=s.growH x1;exact xn ht s1 c J1 e p
def P8 (K:Frag)(f:FA):TI:=λσ H R=>∃(B:Hp)(ρ:Env)(ds:List D),aU B H/\fE K B σ ρ/\f ρ=some ds/\∀(J:It)(H' N:Hp),Ext B N H H'->(∀B',oH K J B' ds)->R J H'
@[simp] def lX (f:FA)(tg:FG)(g:FS):FS:=λρ=>(f ρ).bind λds=>iC tg g ds ρ
theorem EG (ht:HX K tg t)(q:nV K (lX f tg g) E σ H):LU (P8 K f) t (nV K g) E σ H:=by
 obtain⟨B0,H0,ρ,r,⟨N,s⟩,e,p⟩:=q;obtain⟨ds,ef,e⟩:=oX e;refine⟨N,ρ,ds,s.ext.nh,s.rep,ef,λJ H1 N1 x1 J1=>?_⟩;exact xn ht (s.grow x1) (aU.refl _) (J1 _) e p
end DL
namespace DL
open PySem PySem.Spec PyProof.Rows L2
abbrev JE (X:Cx)(e:Expr)(f:FE):Prop:=PE X e (tD X.K f)
abbrev JT (X:Cx)(e:Expr)(f:FT):Prop:=PT X e (CN X.K f)
abbrev JW (X:Cx)(e:Expr)(f:FT):Prop:=PW X e (CN X.K f)
abbrev JA (X:Cx)(es:List Expr)(f:FA):Prop:=PA X es (Op X.K f)
abbrev JS (X:Cx)(st:Stmt)(g:FS):Prop:=PS X st (nV X.K g)
abbrev wO (X:Cx)(st:List Stmt)(g:FS):Prop:=uy X st (nV X.K g)
abbrev JI (X:Cx)(tg cV:Expr)(f:FA):Prop:=PI X tg cV (UV X.K f)
def Ms (M:Model)(A:Around)(rT:List Expr)(sy:Expr)(env:PySem.Env)(kY:Value)(E:Value->Shared->Prop)(P:Shared->Prop):Shared->Prop :=
 wpAny M A (forIn rT true λc r=>if r=true then do let ok ←isTrue c env (eval c env);pure (ForInStep.yield ok)else pure (ForInStep.yield r))
  (λok s₃=>if ok=true then wpAny M A (eval sy env) (λx=>wpAny M A (call (.builtin "list.append") [kY,x]) (λ_=>P) E) E s₃ else P s₃) E
theorem uM {E:Value->Shared->Prop}(hE:∀x s,¬E x s)(I:Nat->Shared->Prop)
  (N6:∀n s,I n s->wpAny (model prog w) A (pyNext it) (λr s₁=>match r with
   |none=>R (.ok .next) s₁
   |some v=>wpAny (model prog w) A (letOwnedTupleGo rS it v) (λ_=>wpAny (model prog w) A (assign rS env v) (λ_=>Ms (model prog w) A rT sy env kY E λs=>∃m,m<n/\I m s) E) E s₁) E s)
  (n:Nat) (h:I n s):codeAny (model prog w) A (.compLoop (.ListComp sy [⟨rS,cV,rT,0⟩] scope pos) 0 it kY env) R s:=by
 refine codeAny_loop rfl I (λn s hI=>?_) n h;show wpAny _ A ((compTurn (.ListComp sy [⟨rS,cV,rT,0⟩] scope pos) 0 it kY env).onRaise (λx=>do noteFrame x env;theTreesLotGoes x)) _ _ s;refine wpAny_noted (wpAny_mono (E:=E) ?_ (λ_ _ q=>q) λ_ _ z=>(hE _ _ z).elim);rw[compTurn_list];refine wX (wpAny_standAt (wX (cx (N6 n s hI) λr s₁ h₁=>?_)));cases r with
 |none=>exact wY h₁
 |some v=>
  refine wX (cx h₁ λ_ s₁ h₁=>wX (cx h₁ λ_ s₂ h₂=>wX (cx h₂ λok s₃ h₃=>?_)));cases ok with
  |false=>exact wY ⟨rfl,h₃⟩
  |true=>exact wX (wX (cx h₃ λx s₄ h₄=>wX (cx h₄ λ_ s₅ h₅=>wY (wY ⟨rfl,h₅⟩))))
theorem Ext.upd (x:Ext B N H H')(h:H a=none)(hN:N a=none):Ext B N H (upd H' a o) :=
 ⟨λb u e=>by rw[aH (λz=>by subst z;rw[h]at e;cases e)];exact x.hh _ _ e,x.bn,λb u e=>by rw[aH (λz=>by subst z;rw[hN]at e;cases e)];exact x.nh _ _ e,x.new⟩
noncomputable abbrev iP (X:Cx)(N':List Str)(scope:Scope)(cl:List (Str×Addr))(C:Addr)(s₃:Shared)(H₃:Hp)(fp:List Addr):Cx :=
 { X with N:=N',s₀:=s₃,H₀:=H₃,env:=compEnvC scope cl C X.env,outer:=X.stack,stack:=X.stack,ex:=fp,fn:=λ_=>false,pn:=[],xe:=λ_ _=>False }
inductive mP (X:Cx)(N':List Str)(scope:Scope)(cl:List (Str×Addr)):Nat->List Nat->Prop where
 |nil {j:Nat}(h:N'.length=j):mP X N' scope cl j []
 |cons {j i:Nat}{r:List Nat}{x:Str}(h1:N'[j]? = some x) (h2:X.N[i]? = some x) (h3:X.env.kindOf x=some .cell∨X.env.kindOf x=some .free)
   (h4:(relabel scope X.env).names.lookup x=some .cell∨(relabel scope X.env).names.lookup x=some .free) (h5:cl.lookup x=X.env.cells.lookup x) (t:mP X N' scope cl (j+1) r):mP X N' scope cl j (i::r)
theorem mP.len:∀ {j:Nat}{cap:List Nat},mP X N' scope cl j cap->N'.length=j+cap.length
 |_,_,.nil h=>by rw[h];rfl
 |j,i::r,.cons _ _ _ _ _ t=>by rw[t.len,vE];omega
theorem mP.get:∀ {j:Nat}{cap:List Nat}{k i:Nat},mP X N' scope cl j cap->cap[k]? = some i->∃x,N'[j+k]? = some x/\X.N[i]? = some x/\(X.env.kindOf x=some .cell∨X.env.kindOf x=some .free) /\
  ((relabel scope X.env).names.lookup x=some .cell∨(relabel scope X.env).names.lookup x=some .free)/\cl.lookup x=X.env.cells.lookup x
 |_,_,_,_,.nil _,e=>by simp at e
 |j,_,0,_,.cons h1 h2 h3 h4 h5 _,e=>by simp at e;subst e;exact⟨_,h1,h2,h3,h4,h5⟩
 |j,_,k+1,i,.cons _ _ _ _ _ t,e=>by
  obtain⟨x,q,r⟩:=t.get (k:=k) (i:=i) (by simpa using e);exact⟨x,by rw[show j+(k+1)=j+1+k by omega];exact q,r⟩
structure CompSc (X:Cx)(scope:Scope)(cl:List (Str×Addr)):Prop where
 clos:closureFor scope X.env=pure cl
 nocell:∀y∈scope.names,y.2≠.cell
 kind:scope.kind=.function
 names:∀y∈scope.names,y.2=.local->scope.names.lookup y.1=some .local
 sub:∀x c,cl.lookup x=some c->X.env.cells.lookup x=some c
 has:∀x,((relabel scope X.env).names.lookup x=some .cell∨(relabel scope X.env).names.lookup x=some .free)->∃c,cl.lookup x=some c
noncomputable def dF:List (Str×NameKind)->List (Str×Addr)->List (Str×Addr)->List (Str×Addr)
 |[],_,cs=>cs
 | (n,k)::r,cells,cs=>dF r cells (if k == .free then (match cells.lookup n with|some c=>(n,c)::cs|none=>cs)else cs)
theorem sS:∀(names:List (Str×NameKind))(cs:List (Str×Addr)),(∀y∈names,y.2=.free->(env.cells.lookup y.1).isSome=true) ->
    (do let mut cs:=cs
        for (name,kind)in names do
          if kind == .free then cs:=(name,←cellOf env name)::cs
        return cs:Sem (List (Str×Addr)))=pure (dF names env.cells cs):=by
  intro names;induction names with
  |nil=>intro cs _;rfl
  |cons y r ih=>
    intro cs h;obtain⟨n,k⟩:=y;have QA:=λcs=>ih cs λy hy=>h y (mZ _ hy);by_cases hk:k=.free
    . subst hk;have hc:=h (n,.free) mX rfl;cases q:env.cells.lookup n with
      |none=>rw[q]at hc;cases hc
      |some c=>
        have e1:dF ((n,.free)::r) env.cells cs=dF r env.cells ((n,c)::cs):=by
          rw[dF,q];rfl
        rw[e1,←QA ((n,c)::cs)];have e2:cellOf env n=pure c:=by unfold cellOf;rw[q]
        simp only[List.forIn_cons,beq_self_eq_true,if_true,e2];rfl
    . have hb:(k == NameKind.free)=false:=by simpa using hk
      have e1:dF ((n,k)::r) env.cells cs=dF r env.cells cs:=by rw[dF,hb];rfl
      rw[e1,←QA cs];simp only[List.forIn_cons,hb,uV,if_false];rfl
theorem lY:∀(names:List (Str×NameKind))(cs:List (Str×Addr)),(∀y d,cs.lookup y=some d->cells.lookup y=some d)->(dF names cells cs).lookup x=some c->cells.lookup x=some c
 |[],cs,h,e=>h x c e
 | (n,k)::r,cs,h,e=>by
  rw[dF]at e;refine lY r _ (λy d q=>?_) e;split at q
  ·split at q
   ·rename_i c' ec;rw[List.lookup_cons]at q;split at q
    ·rename_i hy;cases q
     rw[eq_of_beq hy];exact ec
    ·exact h y d q
   ·exact h y d q
  ·exact h y d q
theorem sT:∀(names:List (Str×NameKind))(cs:List (Str×Addr)),(cs.lookup x).isSome=true->((dF names cells cs).lookup x).isSome=true
 |[],cs,h=>h
 | (n,k)::r,cs,h=>by
  rw[dF];refine sT r _ ?_;split
  ·split
   ·rw[List.lookup_cons];split
    ·rfl
    ·exact h
   ·exact h
  ·exact h
theorem lZ:∀(names:List (Str×NameKind))(cs:List (Str×Addr)),(x,NameKind.free)∈names->(cells.lookup x).isSome=true->((dF names cells cs).lookup x).isSome=true
 | (n,k)::r,cs,hm,hc=>by
  rw[dF];rcases vP hm with e|e
  ·cases e
   refine sT r _ ?_;cases q:cells.lookup x with
   |none=>rw[q]at hc;cases hc
   |some c=>simp
  ·exact lZ r _ e hc
theorem fL {α:Type}{x:Str}{k:α}:∀ {l:List (Str×α)},l.lookup x=some k->(x,k)∈l
 | (n,j)::r,h=>by
  rw[List.lookup_cons]at h;split at h
  ·rename_i e;cases h
   rw[eq_of_beq e];exact mX
  ·exact mZ _ (fL h)
theorem Mt {X:Cx}{scope:Scope}(h1:∀y∈scope.names,y.2≠.cell)(h2:scope.kind=.function)(h3:∀y∈scope.names,y.2=.local->scope.names.lookup y.1=some .local)(OA:(scope.names.all λy=>!(y.2 == NameKind.free) || (X.env.cells.lookup y.1).isSome)=true):
  CompSc X scope (dF scope.names X.env.cells []):=by
 have h4:∀y∈scope.names,y.2=.free->(X.env.cells.lookup y.1).isSome=true:=λy hy e=>by
  have:=uR OA y hy;rw[e]at this;simpa using this
 have frees:∀x,((relabel scope X.env).names.lookup x=some .cell∨(relabel scope X.env).names.lookup x=some .free)->(x,NameKind.free)∈scope.names:=λx h=>by
  have:∃k,(x,k)∈(relabel scope X.env).names/\(k=.cell∨k=.free):=by
   rcases h with h|h
   ·exact⟨_,fL h,.inl rfl⟩
   ·exact⟨_,fL h,.inr rfl⟩
  obtain⟨k,hm,hk⟩:=this;obtain⟨⟨n,j⟩,hj,e⟩:=vO hm;dsimp only at e;split at e
  ·rename_i hc;rw[vC,vC]at hc;cases e
   rw[←eq_of_beq hc.1.1];exact hj
  ·cases e
   rcases hk with rfl|rfl
   ·exact absurd rfl (h1 _ hj)
   ·exact hj
 exact⟨sS scope.names [] h4,h1,h2,h3,λx c e=>lY scope.names [] (λy d q=>by cases q) e,λx h=>by
  have:=lZ (x:=x) scope.names [] (frees x h) (h4 _ (frees x h) rfl);exact uU this⟩
theorem oZ {scope:Scope}{cells:List (Str×Addr)}{x:Str}(h:(x,NameKind.free)∈scope.names)(hc:(cells.lookup x).isSome=true):(dF scope.names cells []).lookup x=cells.lookup x:=by
 obtain⟨c,e⟩:=uU (lZ (x:=x) scope.names [] h hc);rw[e,lY scope.names [] (λy d q=>by cases q) e]
noncomputable def sd (nT:Nat)(cap:List Nat)(σ:St):St:=List.replicate nT none++cap.map λi=>(σ[i]?).join
noncomputable def dG (nT:Nat)(cap:List Nat)(ρ:Env):Env:=List.replicate nT none++cap.map λi=>match ρ[i]? with|some (some (d,_))=>some (d,false)|_=>none
theorem vc {α:Type}{nT:Nat}{cap:List Nat}{f:Nat->Option α}{j:Nat}{v:α}(h:(List.replicate nT none++cap.map f)[j]? = some (some v)):∃k i,j=nT+k/\cap[k]? = some i/\f i=some v:=by
 by_cases hj:j<nT
 ·rw[List.getElem?_append_left (by simpa using hj),List.getElem?_replicate,if_pos hj]at h;cases h
 ·rw[List.getElem?_append_right (by simpa using Nat.not_lt.mp hj),List.length_replicate,vA]at h;obtain⟨i,h1,h2⟩:=oY h;exact⟨j - nT,i,by omega,h1,h2⟩
theorem HZ {α:Type}{nT:Nat}{cap:List Nat}{f:Nat->Option α}{k i:Nat}{v:α}(h1:cap[k]? = some i)(h2:f i=some v):(List.replicate nT none++cap.map f)[nT+k]? = some (some v):=by
 rw[List.getElem?_append_right (by simp),List.length_replicate,vA,Nat.add_sub_cancel_left,h1];simp[h2]
theorem fE.caps {K:Frag}{B:Hp}{σ:St}{ρ:Env}{nT:Nat}{cap:List Nat}(h:fE K B σ ρ):fE K B (sd nT cap σ) (dG nT cap ρ):=⟨h.tb,λj d b q=>by
 obtain⟨k,i,rfl,h1,h2⟩:=vc q;split at h2
 ·rename_i d' b' e;cases h2
  obtain⟨v,g1,g2⟩:=h.at' i _ _ e;exact⟨v,HZ h1 (by rw[g1];rfl),g2⟩
 ·cases h2⟩
noncomputable def gA (tg:FG)(c:FT)(fe:FE)(ρ:Env):List D->Option (List D)
 |[]=>some []
 |d::r=>(tg d ρ).bind λρ1=>(c ρ1).bind λb=>if b=true then (fe ρ1).bind λx=>(gA tg c fe ρ r).map (x.1 :: ·)else gA tg c fe ρ r
@[simp] theorem Oq (tg:FG)(c:FT)(fe:FE)(ρ:Env):gA tg c fe ρ []=some []:=by rw[gA]
@[simp] theorem zX (tg:FG)(c:FT)(fe:FE)(ρ:Env)(d:D)(r:List D):gA tg c fe ρ (d::r)=(tg d ρ).bind λρ1=>(c ρ1).bind λb=>if b=true then (fe ρ1).bind λx=>(gA tg c fe ρ r).map (x.1 :: ·)else gA tg c fe ρ r:=by rw[gA]
@[simp] def bO (fi:FA)(nT:Nat)(cap:List Nat)(tg:FG)(c:FT)(fe:FE):FE:=λρ=>(fi ρ).bind λitems=>if items.length<=sizeLine then (gA tg c fe (dG nT cap ρ) items).map λds=>(.lst ds,true)else none
def Kt (K:Frag)(n:Nat)(tg:FG)(g:TG):Prop:=∀(B H:Hp)(σ:St)(ρ ρ1:Env)(v:V)(d:D)(Q:St->Hp->Prop),(∀i,i<n->ρ[i]? = some none)->fE K B σ ρ->aU B H->Is K B v d->tg d ρ=some ρ1 ->
 ρ.length=σ.length->(∀σ1,fE K B σ1 ρ1->(∀B',fE K B' σ ρ->fE K B' σ1 ρ)->ρ.length=σ1.length->Q σ1 H)->g v σ H Q
theorem xo {K:Frag}{n i:Nat}(hi:i<n):Kt K n (dE i) (jF i):=by
 intro B H σ ρ ρ1 v d Q cl rep s h e hl k;cases e
 have DK:i<σ.length:=by
  have:=(vV (cl i hi)).1;omega
 refine k _ ⟨rep.tb,λj e b q=>?_⟩ ?_ (by simpa using hl)
 ·rcases bW q with⟨rfl,p⟩|⟨ne,p⟩
  ·cases p
   exact⟨v,by simp[DK],h⟩
  ·obtain⟨w,h1,h2⟩:=rep.at' j e b p;exact⟨w,by rw[vB ne];exact h1,h2⟩
 ·intro B' QB;refine⟨QB.tb,λj e b q=>?_⟩;obtain⟨w,h1,h2⟩:=QB.at' j e b q;have ne:i≠j:=λz=>by subst z;rw[cl i hi]at q;cases q
  exact⟨w,by rw[vB ne];exact h1,h2⟩
def JC (X:Cx)(rT:List Expr)(c:FT):Prop:=∀(ae:List (Addr×Obj))(s:Shared)(σ:St)(H:Hp)(Q:Bool->Hp->Prop),Inv X ae σ H s->CN X.K c σ H Q ->
 wq X (forIn rT true λc r=>if r=true then do let ok ←isTrue c X.env (eval c X.env);pure (ForInStep.yield ok)else pure (ForInStep.yield r)) (TP X ae σ Q) X.xe s
@[simp] noncomputable def gQ:FT:=λ_=>some true
theorem jW:JC X [] gQ:=by
 intro ae s σ H Q I h;obtain⟨B,ρ,c,sB,rep,e,q⟩:=h;cases e
 exact wpAny_tests_nil ⟨H,I,q H (.refl H)⟩
theorem eS (h:JT X e f):JC X [e] f:=λae s σ H Q I q=>wpAny_tests_one (h ae s σ H Q I q)
inductive CI (Y:Cx)(tn:Nat->Heap->Prop)(fp:List Addr)(N1 H2:Hp)(κ:Env)(a:Addr)(l:List D->Option (List D))(items ds:List D)(s:Shared):Nat->Prop
 |mk (i:Nat) (N:Hp) (vs:List V) (es r:List D) (σ:St) (H:Hp) (I:Inv Y [] σ H s) (ti:tn i s.heap) (hn:∀b∈fp,H b=none) (hi:i<=items.length) (rp:fE Y.K N1 σ κ) (hl:κ.length=σ.length)
   (x:Ext N1 N H2 H) (n0:N a=none) (h0:H a=some (.lst vs)) (vl:vs.length<=i) (iv:IsL Y.K N vs es) (er:l (items.drop i)=some r) (ed:es++r=ds):CI Y tn fp N1 H2 κ a l items ds s (items.length - i)
theorem Ext.both (x:Ext N1 N H2 H)(y:Ext N1 N' H H'):Ext N (join N N') H H'/\aU N' (join N N'):=by
 refine⟨⟨y.hh,eQ,λa o e=>?_,λa o e=>?_⟩,λa o e=>?_⟩
 ·cases z:N a with
  |some u'=>rw[eQ _ _ z]at e;cases e;exact y.hh _ _ (x.nh _ _ z)
  |none=>rw[dZ z]at e;exact y.nh _ _ e
 ·cases z:N a with
  |some u'=>rw[eQ _ _ z]at e;cases e;exact .inl rfl
  |none=>
   rw[dZ z]at e;exact(y.new a o e).elim (λz'=>by rw[x.bn _ _ z']at z;cases z) .inr
 ·exact(y.new a o e).elim (λz=>eQ _ _ (x.bn _ _ z)) λz=>by rw[dZ (x.nh.free z)];exact e
theorem Ext.off (x:Ext B N H H')(h:B a=none)(h':H a=some o):N a=none:=by
 cases z:N a with
 |none=>rfl
 |some u=>
  rcases x.new _ _ z with z|z
  ·rw[h]at z;cases z
  ·rw[h']at z;cases z
theorem CQ {Y:Cx}(jM:Y.calm=true)(hE:∀x s,¬Y.xe x s)(hg:PG Y tg g)(GP:Kt Y.K nT p5 g)(hc:JC Y rT fc)(he:JE Y sy fe)(T:Turn Y.prog Y.w Y.K tg J fp it tn)(QC:∀i,i<nT->κ[i]? = some none)
  (J1:oH Y.K J N1 items) (hsz:items.length<=sizeLine) (hD:H2 a=none) (TJ:∀H',(∀b∈fp,H' b=none)->∀b∈fp,mR Y [] H' b)
  (hR:∀s4 σ' H' N vs,Inv Y [] σ' H' s4->Ext N1 N H2 H'->N a=none->H' a=some (.lst vs)->IsL Y.K N vs ds->R (.ok .next) s4) (h:CI Y tn fp N1 H2 κ a (gA p5 fc fe κ) items ds s items.length):
  codeAny (model Y.prog Y.w) Y.A (.compLoop (.ListComp sy [⟨tg,cV,rT,0⟩] scope pos) 0 (.ref it) (.ref a) Y.env) R s:=by
 refine uM hE (λn s=>CI Y tn fp N1 H2 κ a (gA p5 fc fe κ) items ds s n) (λn s' h=>?_) _ h;obtain⟨i,N,vs,es,r,σ',H',I',ti,hn,hi,rp,bF,x,RU,QD,Cy,QE,er,RV⟩:=h;have sH:aU N1 H':=x.bn.trans x.nh;by_cases fG:i<items.length
 ·obtain⟨go,yl⟩:=(J1 i H' sH).1 items[i] (by simp[fG]);refine cx (T.item Y rfl rfl rfl jM i [] s' σ' H' Y.xe I' (TJ _ hn) ti go) λq s4 ⟨u,eu,hq⟩=>?_;subst eu;refine cx hq λ_ s5 ⟨xv,H5,I5,rx,y5,t5,T3⟩=>?_;obtain⟨N5,x5,i5⟩:=yl xv H5 y5;obtain⟨x6,c5⟩:=x.both x5;have V0:(join N N5) a=none:=x6.off RU QD;have RW:aU (join N N5) H5:=x6.nh;rw[List.drop_eq_getElem_cons fG]at er;unfold gA at er;obtain⟨ρ1,e1,er⟩:=oX er;obtain⟨b,e2,er⟩:=oX er;have kX:∀(s9:Shared)(σ9:St)(H9 N9:Hp)(QG:List V)(RX r9:List D),Inv Y (mS fp s5.heap) σ9 H9 s9->fE Y.K N1 σ9 κ->κ.length=σ9.length->Ext N1 N9 H2 H9->N9 a=none->H9 a=some (.lst QG) ->
    QG.length<=i+1->IsL Y.K N9 QG RX->gA p5 fc fe κ (items.drop (i+1))=some r9->RX++r9=ds->∃m,m<items.length - i/\CI Y tn fp N1 H2 κ a (gA p5 fc fe κ) items ds s9 m:=λs9 σ9 H9 N9 QG RX r9 I9 X3 l9 x9 n9 h9 v9 i9 X4 X5=>
   ⟨_,by omega,i+1,N9,QG,RX,r9,σ9,H9,I9.pins_of λp hp=>by simp at hp,T.keep _ _ _ t5 λb hb o e=>(I9.pin (b,o) (mY _ (jw hb e))).1,λb hb=>by
    obtain⟨o,e,d⟩:=T.obj _ _ t5 b hb;exact(I9.pin (b,o) (mY _ (jw hb e))).2.1,fG,X3,l9,x9,n9,h9,v9,i9,X4,X5⟩
  refine cx (hg (mS fp s5.heap) s5 σ' H5 xv u (λσ6 H6=>H6=H5/\fE Y.K (join N N5) σ6 ρ1/\fE Y.K N1 σ6 κ/\κ.length=σ6.length) (I5.pinned (TJ _ T3) (T.obj _ _ t5)) rx
   (GP (join N N5) H5 σ' κ ρ1 xv items[i] _ QC (rp.mono (x.bn.trans eQ)) RW (i5.mono c5) e1 bF λσ1 r1 r2 l1=>⟨rfl,r1,r2 N1 rp,l1⟩)) λ_ s6 ⟨σ6,H6,I6,eH,V1,V2,l6⟩=>?_
  subst eH;have TK:H6 a=some (.lst vs):=x5.hh _ _ QD;refine cx (hc _ s6 σ6 H6 (λc H7=>c=b/\aU H6 H7) I6 ⟨join N N5,ρ1,b,RW,V1,e2,λH7 h7=>⟨rfl,h7⟩⟩) λok s7 ⟨H7,I7,eb,h7⟩=>?_;subst eb;have x7:Ext N1 (join N N5) H2 H7:=(x.trans x6).trans (.grow RW h7);cases ok with
  |false=>
   rw[if_neg (by decide)]at er ⊢;exact kX s7 σ6 H7 (join N N5) vs es r I7 V2 l6 x7 V0 (h7 _ _ TK) (Nat.le_succ_of_le Cy) (QE.mono eQ) er RV
  |true=>
   rw[if_pos rfl]at er ⊢;obtain⟨y,e3,er⟩:=oX er;obtain⟨r',e4,er⟩:=oY er;subst er;refine cx (he _ s7 σ6 H7 (λv H8=>∃N8,Ext (join N N5) N8 H7 H8/\Is Y.K N8 v y.1) I7 ⟨join N N5,ρ1,y.1,y.2,RW.trans h7,V1,e3,λv H8 N8 x8 i8 _=>⟨N8,x8,i8⟩⟩) λw8 s8 ⟨v8,H8,I8,r8,N8,x8,i8⟩=>?_;refine cx (sO _ s8 σ6 H8 (.ref a) [v8] (.ref a) [w8] (λ_ H9=>H9=upd H8 a (.lst (vs++[v8]))) I8 rfl (.cons r8 .nil) ⟨_,vs,v8,rfl,rfl,x8.hh _ _ (h7 _ _ TK),by omega,rfl⟩) λ_ s9 ⟨_,H9,I9,_,e9⟩=>?_;subst e9;have V3:=x8.off V0 (h7 _ _ TK);exact kX s9 σ6 _ N8 (vs++[v8]) (es++[y.1]) r' I9 V2 l6 ((x7.trans x8).upd hD V3) V3 aE (by rw[uZ,List.length_singleton];omega) ((QE.mono (eQ.trans x8.bn)).append (.cons i8 .nil)) e4 (by rw[List.append_assoc];exact RV)
 ·obtain rfl:i=items.length:=by omega
  rw[List.drop_eq_nil_of_le (vT _)]at er;cases er
  rw[uQ]at RV;subst RV;refine cx (T.done Y rfl rfl rfl jM items.length [] s' σ' H' Y.xe I' (TJ _ hn) ti ((J1 _ H' sH).2 (vT _))) λq s4 ⟨hq,I9⟩=>?_;subst hq;exact hR s4 σ' H' N vs I9 x RU QD QE
theorem pD {X:Cx}(jM:X.calm=true){tg cV sy:Expr}{rT:List Expr}{scope:Scope}{pos:Pos}{cl:List (Str×Addr)}{N':List Str}{nT:Nat}{cap:List Nat}{p5:FG}{g:TG}{fc:FT}{fe:FE}
  (S:CompSc X scope cl) (cp:mP X N' scope cl nT cap)
  (hg:∀C s H fp,PG (iP X N' scope cl C s H fp) tg g) (GP:Kt X.K nT p5 g) (hc:∀C s H fp,JC (iP X N' scope cl C s H fp) rT fc) (he:∀C s H fp,JE (iP X N' scope cl C s H fp) sy fe)
  {ae:List (Addr×Obj)}{σ:St}{H2:Hp}{s2:Shared}{it:Addr}{fp:List Addr}{tn:Nat->Heap->Prop}{J:It}{N1:Hp}{ρ:Env}{items ds:List D}{E:Value->Shared->Prop}
  (I2:Inv X ae σ H2 s2) (T:Turn X.prog X.w X.K tg J fp it tn) (JJ:tn 0 s2.heap) (f2:∀b∈fp,mR X ae H2 b)
  (rep:fE X.K N1 σ ρ) (sN:aU N1 H2) (J1:oH X.K J N1 items) (hsz:items.length<=sizeLine) (ec:gA p5 fc fe (dG nT cap ρ) items=some ds) {RR:Value->Addr->Result->Shared->Prop}
  (X6:∀(Dd C:Addr)(s':Shared)(H' N:Hp)(vs:List V)(m:Str->Option Value),H2 Dd=none->Inv X ae σ H' s'->s'.heap.Ns C m->mR X ae H' C->Ext N1 N H2 H'->N Dd=some (.lst vs)->IsL X.K N vs ds->RR (.ref Dd) C (.ok .next) s'):
  wq X (newList []) (λkY s₃=>wq X (newFunctionEnv scope X.env.globals cl [] X.env.qual none .none (some X.env)) (λQH s₄=>
   codeAny (model X.prog X.w) X.A (.compStart (.ListComp sy [⟨tg,cV,rT,0⟩] scope pos) 0 (.ref it) kY { QH with scope:=relabel scope X.env }) (RR kY QH.locals) s₄) E s₃) E s2:=by
 refine wpAny_newObj_type (wpAny_newFunctionEnv S.nocell (by intro y hy;simp at hy) (λh₁ AQ hsb₁=>?_) S.kind);dsimp only at AQ hsb₁ ⊢;have hD:H2 s2.heap.objs.size=none:=I2.fresh;have I3:Inv X ae σ (upd H2 s2.heap.objs.size (.lst [])) { s2 with heap:=s2.heap.push { cls:=.type "list",dict:=none,data:=.seq ([]:List Value).toArray } }:=I2.lnew (t':=s2.toks) (ys:=[]) (its:=[]) .nil (uN _);generalize hH3:s2.heap.push { cls:=.type "list",dict:=none,data:=.seq ([]:List Value).toArray }=g3 at AQ hsb₁ I3 ⊢;have hC:g3.objs.size=s2.heap.objs.size+1:=by rw[←hH3,Heap.size_push]
 have JX:∀b o,s2.heap.get? b=some o->g3.get? b=some o:=λb o e=>hH3 ▸ vZ _ e;have DR:∀b o,g3.get? b=some o->h₁.get? b=some o:=λb o e=>hsb₁.extBut b o (vS (vX e)) (vZ _ e);have O6:∀b o,g3.get? b=some o->b≠g3.objs.size:=λb o e=>vS (vX e);have V4:∀b∈fp,∃o,s2.heap.get? b=some o:=λb hb=>let ⟨o,e,_⟩:=T.obj 0 s2.heap JJ b hb;⟨o,e⟩;have X7:∀b∈fp,b≠s2.heap.objs.size:=λb hb=>let ⟨o,e⟩:=V4 b hb;vS (vX e);have V5:∀b∈fp,b≠g3.objs.size:=λb hb=>let ⟨o,e⟩:=V4 b hb;O6 b o (JX b o e);have V6:∀x c,X.env.cells.lookup x=some c->c≠g3.objs.size:=λx c e=>by
  obtain⟨v,z⟩:=I3.cell x c e;exact vS z.lt
 have X8:(upd H2 s2.heap.objs.size (HO.lst [])) g3.objs.size=none:=I3.hok.fresh (vT _);have stk:∀b∈Ec X.stack,∃o,s2.heap.get? b=some o:=λb hb=>by
  obtain⟨_,o,ho,_⟩:=(I2.stack).mem hb;exact⟨o,ho⟩
 -- the block's context
 let Y:Cx:=iP X N' scope cl g3.objs.size { s2 with heap:=g3 } (upd H2 s2.heap.objs.size (.lst [])) fp;have ok:Y.Ok:=by
  refine⟨I2.ok.mod,?_,I2.ok.glob,I2.ok.blt,vT _,λx y c e1 e2=>I2.ok.inj x y c (S.sub x c e1) (S.sub y c e2),λx h=>S.has x h,λx c h=>absurd h uX,I2.ok.hd,I2.ok.frames,.inl rfl,λb hb=>⟨V5 b hb,λx c e=>(f2 b hb).2.2.2.2.1 x c (S.sub x c e)⟩,λb o e=>?_,?_,λb o e hb=>?_,λb hb hz=>?_,I3.stack,λb hb=>I3.stkFree b hb⟩
  ·show(relabel scope X.env).kind=.function;exact S.kind
  ·exact I3.bs b o e
  ·exact vR I3.ok.bsz I3.sz
  ·have h1:=(f2 b hb).2.2.2.1;rcases h1 with z|z
   ·exact I2.ok.noex b o e z
   ·exact absurd (vQ (vX e) (vR I2.ok.bsz z)) (Nat.lt_irrefl _)
  ·rcases vP (I2.stkSub b hz)with z|z
   ·exact(f2 b hb).2.1 z
   ·exact(f2 b hb).2.2.1 z
 have I4:Inv Y [] (sd nT cap σ) (upd H2 s2.heap.objs.size (.lst [])) { s2 with heap:=h₁,toks:=s2.toks+([]:List (Str×Value)).length }:=by
  refine⟨ok,rfl,I2.bare,Un.kept DR,⟨_,AQ,λj x v e1 e2 e3=>?_⟩,λx c e=>?_,X8,λx c e=>I3.freeC x c (S.sub x c e),λp hp=>absurd (show p∈[]from hp) List.not_mem_nil,I3.hok.kept DR,?_⟩
  ·obtain⟨k,i,rfl,h1,h2⟩:=vc e2;obtain⟨y,g1,g2,V7,g4,g5⟩:=cp.get h1;have Lq:N'[nT+k]? = some x:=e1;rw[g1]at Lq;cases Lq;have GO:σ[i]? = some (some v):=by
    cases q:σ[i]? with
    |none=>rw[q]at h2;cases h2
    |some z=>rw[q]at h2;have:z=some v:=h2;rw[this]
   obtain⟨m,_,hl⟩:=I3.loc;obtain⟨u,r,l⟩:=hl i _ v g2 GO (V7.elim (λz=>.inr (.inl z)) λz=>.inr (.inr z));refine⟨u,r,?_⟩;rcases l with⟨l,_⟩|⟨_,c,lc,ic⟩
   ·rcases V7 with z|z<;>(rw[z]at l;cases l)
   ·refine .inr ⟨g4,c,by show cl.lookup _=some c;rw[g5];exact lc,?_⟩;obtain⟨o,ho,hd⟩:=ic;exact⟨o,DR _ _ ho,hd⟩
  ·obtain⟨v,o,ho,hd⟩:=I3.cell x c (S.sub x c e);exact⟨v,o,DR _ _ ho,hd⟩
  ·show(sd nT cap σ).length=N'.length;unfold sd;rw[cp.len];simp
 have loop:∀s₃:Shared,s₃={ s2 with heap:=h₁,toks:=s2.toks+([]:List (Str×Value)).length }->codeAny (model Y.prog Y.w) Y.A (.compLoop (.ListComp sy [⟨tg,cV,rT,0⟩] scope pos) 0 (.ref it) (.ref s2.heap.objs.size) Y.env) (RR (.ref s2.heap.objs.size) g3.objs.size) s₃:=by
  rintro s₃ rfl;refine CQ (Y:=Y) jM (λ_ _ z=>z) (hg _ _ _ _) GP (hc _ _ _ _) (he _ _ _ _) T (λi hi=>?_) J1 hsz hD (λH' hn b hb=>⟨hn b hb,V5 b hb,ok.exfs b hb,.inl hb,λx c e=>(f2 b hb).2.2.2.2.1 x c (S.sub x c e),λp hp=>absurd (show p∈[]from hp) List.not_mem_nil⟩) (λs4 σ' H' N vs I9 x RU QD QE=>?_)
   ⟨0,N1,[],[],ds,sd nT cap σ,_,I4,T.keep _ _ _ JJ λb hb o e=>DR _ _ (JX _ _ e),λb hb=>?_,uN _,rep.caps,?_,(Ext.refl sN).upd hD (sN.free hD),sN.free hD,aE,uN _,.nil,by simpa using ec,rfl⟩
  ·unfold dG;rw[List.getElem?_append_left (by simpa using hi),List.getElem?_replicate,if_pos hi]
  ·obtain⟨m,hm,_⟩:=I9.loc;have k:aU N (upd N s2.heap.objs.size (.lst vs)):=λa o e=>by rw[aH (λz=>by subst z;rw[RU]at e;cases e)];exact e
   refine X6 s2.heap.objs.size g3.objs.size s4 H' (upd N s2.heap.objs.size (.lst vs)) vs m hD (I2.call' (ch:=fp) I9.os ((Un.laid JX (vT _) hD).trans I9.base) I9.hok I9.bare λb hb=>⟨(f2 b hb).2.2.2.1,(f2 b hb).2.1,(f2 b hb).2.2.2.2.1,(f2 b hb).2.2.2.2.2⟩) hm (I2.fpOk (by rw[hC];exact Nat.le_succ _) I9.free) ⟨x.hh,x.bn.trans k,λa o e=>?_,λa o e=>?_⟩ aE (QE.mono k)
   ·by_cases z:a=s2.heap.objs.size
    ·subst z;rw[aE]at e;cases e;exact QD
    ·rw[aH z]at e;exact x.nh _ _ e
   ·by_cases z:a=s2.heap.objs.size
    ·subst z;exact .inr hD
    ·rw[aH z]at e;exact x.new _ _ e
  ·rw[aH (X7 b hb)];exact(f2 b hb).1
  ·unfold dG sd;simp
 exact codeAny_compStart_list (loop _ rfl) (T.self _ 0 _ _ _ (T.keep _ _ _ JJ λb hb o e=>DR _ _ (JX _ _ e)) (loop _ rfl))
theorem Ia (jM:X.calm=true) 
  (S:CompSc X scope cl) (cp:mP X N' scope cl nT cap) (hi:JI X tg cV fi)
  (hg:∀C s H fp,PG (iP X N' scope cl C s H fp) tg g) (GP:Kt X.K nT p5 g) (hc:∀C s H fp,JC (iP X N' scope cl C s H fp) rT fc) (he:∀C s H fp,JE (iP X N' scope cl C s H fp) sy fe)
  (hs:∀x,foldedSetIterable cV X.env x=pure x:=by intro _;rfl):
  JE X (.ListComp sy [⟨tg,cV,rT,0⟩] scope pos) (bO fi nT cap p5 fc fe):=by
 intro ae s σ H Q I h;obtain⟨B,ρ,d,b,sB,rep,e,q⟩:=h;obtain⟨items,ei,e⟩:=oX e;have hsz:items.length<=sizeLine:=Decidable.byContradiction λz=>by rw[if_neg z]at e;cases e
 rw[if_pos hsz]at e;obtain⟨ds,ec,e⟩:=oY e;cases e
 rw[eval_ListComp];refine wpAny_comprehension_free (use:=none) rfl hs S.clos S.kind S.names (cx (hi ae s σ H (λJ H2=>∃N1,Ext B N1 H H2/\oH X.K J N1 items) I ⟨B,ρ,items,sB,rep,ei,λJ H2 N1 x1 j1=>⟨N1,x1,j1⟩⟩) λv s1 h1=>cx h1 λRO s2 h2=>?_);obtain⟨it,fp,tn,J,H2,e,I2,T,JJ,f2,N1,x1,j1⟩:=h2;subst e;refine pD jM S cp hg GP hc he I2 T JJ f2 (rep.mono x1.bn) x1.nh j1 hsz ec (RR:=λkY C=>compPost (model X.prog X.w) X.A X.xe none (EP X ae σ Q) kY C) ?_;intro Dd C s' H' N vs m hD I' hm fC x hN hl;refine⟨m,hm,λh' hs'=>⟨.ref Dd,H',?_,rfl,q _ H' N (x1.trans x) (.lst (iA.of hN) hl) λ_=>⟨Dd,vs,ds,rfl,rfl,x1.hh.free hD,hN,hl⟩⟩⟩;obtain⟨c0,c1,c2,c3,c4,c5⟩:=fC;exact I'.turned (t':=s'.toks) (λb o hb e=>(hs'.2 b hb).trans e) c0 c1 c3 c4 c5
theorem Ib (jM:X.calm=true) 
  (hN:X.N.Nodup) (Lr:X.N[i]? = some y) (hy:X.env.kindOf y=some .local)
  (QI:swapsWith (.ListComp sy [⟨tg,cV,rT,0⟩] scope pos) (some (.Name y py)) spos.line X.env=pure true)
  (S:CompSc X scope cl) (cp:mP X N' scope cl nT cap) (hi:JI X tg cV fi)
  (hg:∀C s H fp,PG (iP X N' scope cl C s H fp) tg g) (GP:Kt X.K nT p5 g) (hc:∀C s H fp,JC (iP X N' scope cl C s H fp) rT fc) (he:∀C s H fp,JE (iP X N' scope cl C s H fp) sy fe)
  (hs:∀x,foldedSetIterable cV X.env x=pure x:=by intro _;rfl):
  JS X (.Assign [.Name y py] (.ListComp sy [⟨tg,cV,rT,0⟩] scope pos) spos) (aQ i (bO fi nT cap p5 fc fe)):=by
 intro ae s σ H E I h;have h2:zE (tD X.K (bO fi nT cap p5 fc fe)) (jF i) E σ H:=Bc h;obtain⟨B,ρ,d,b,sB,rep,e,q⟩:=h2;obtain⟨items,ei,e⟩:=oX e;have hsz:items.length<=sizeLine:=Decidable.byContradiction λz=>by rw[if_neg z]at e;cases e
 rw[if_pos hsz]at e;obtain⟨ds,ec,e⟩:=oY e;cases e
 rw[exec_Assign_Name_used _ _ _ _ QI];refine wX (wpAny_standAt (wX ?_));show wpAny _ _ (do let _ ←comprehension (.ListComp sy [⟨tg,cV,rT,0⟩] scope pos) scope X.env _ (newList []) false (eval cV X.env) (some (assign (.Name y py) X.env))) _ _ s;refine wX (wpAny_mono (wpAny_comprehension_free (use:=some (assign (.Name y py) X.env)) (Q:=λ_ s'=>SP X ae E .next s') rfl hs S.clos S.kind S.names
  (cx (hi ae s σ H (λJ H2=>∃N1,Ext B N1 H H2/\oH X.K J N1 items) I ⟨B,ρ,items,sB,rep,ei,λJ H2 N1 x1 j1=>⟨N1,x1,j1⟩⟩) λv s1 h1=>cx h1 λRO s2 h2=>?_)) (λ_ s' hq=>wY (wY hq)) λ_ _ e=>e)
 obtain⟨it,fp,tn,J,H2,e,I2,T,JJ,f2,N1,x1,j1⟩:=h2;subst e;refine pD jM S cp hg GP hc he I2 T JJ f2 (rep.mono x1.bn) x1.nh j1 hsz ec (RR:=λkY C=>compPost (model X.prog X.w) X.A X.xe (some (assign (.Name y py) X.env)) (λ_ s'=>SP X ae E .next s') kY C) ?_;intro Dd C s' H' N vs m hD I' hm fC x V8 hl;show wpAny _ _ (assign (.Name y py) X.env (.ref Dd)) _ _ s';obtain⟨c0,c1,c2,c3,c4,c5⟩:=fC;refine wpAny_assign_Name (sC I' hN Lr (.inl hy) (r:=show aX (.ref Dd) (.ref Dd)from rfl) (λs9 I9 ⟨a,sb,ha⟩=>?_) (.inr hy));have nC:C≠a:=by
  rcases ha with z|z
  ·rw[z];exact c1
  ·exact λw=>c4 y a z w.symm
 refine⟨m,hm.sameBut sb nC,λh' hs'=>⟨_,H',?_,q _ H' N (x1.trans x) (.lst (iA.of V8) hl) λ_=>⟨Dd,vs,ds,rfl,rfl,x1.hh.free hD,V8,hl⟩⟩⟩;exact I9.turned (t':=s9.toks) (λb o hb e=>(hs'.2 b hb).trans e) c0 c1 c3 c4 c5
section
variable {X:Cx}{a b c e:Expr}{pos:Pos}
theorem PE.to (h:PE X e t)(k:∀σ H Q,t' σ H Q->t σ H Q):PE X e t':=λae s σ H Q I q=>h ae s σ H Q I (k σ H Q q)
theorem PT.to (h:PT X e t)(k:∀σ H Q,t' σ H Q->t σ H Q):PT X e t':=λae s σ H Q I q=>h ae s σ H Q I (k σ H Q q)
theorem PW.to (h:PW X e t)(k:∀σ H Q,t' σ H Q->t σ H Q):PW X e t':=λwh ae s σ H Q I q=>h wh ae s σ H Q I (k σ H Q q)
theorem PA.to (h:PA X es t)(k:∀σ H Q,t' σ H Q->t σ H Q):PA X es t':=λpos ae s σ H Q I q=>h pos ae s σ H Q I (k σ H Q q)
theorem PS.to {st:Stmt}{t t':TS}(h:PS X st t)(k:∀E σ H,t' E σ H->t E σ H):PS X st t':=λae s σ H E I q=>h ae s σ H E I (k E σ H q)
theorem uy.to {st:List Stmt}{t t':TS}(h:uy X st t)(k:∀E σ H,t' E σ H->t E σ H):uy X st t':=λae s σ H E I q=>h ae s σ H E I (k E σ H q)
theorem PI.to (h:PI X tg it t)(k:∀σ H Q,t' σ H Q->t σ H Q):PI X tg it t':=λae s σ H Q I q=>h ae s σ H Q I (k σ H Q q)
theorem EH {K:Frag}{d:D}{v:V}(i:∀B,Is K B v d){σ:St}{H:Hp}{Q:VK}(h:tD K (fC d) σ H Q):tC v σ H Q:=by
 obtain⟨B,ρ,d',b,s,r,e,q⟩:=h;cases e
 exact q.one s (i B)
theorem ag (i:Nat)(hN:X.N[i]? = some x:=by rfl)(hv:En X.env.scope x:=by first|exact Or.inl rfl|exact Or.inr (Or.inl rfl)|exact Or.inr (Or.inr rfl))(hd:(x == ("__debug__" : Str))=false:=by decide)
  (jv:(x == ("__classdict__" : Str))=false:=by decide):JE X (.Name x pos) (ai i):=PE.to (lw hN hv hd jv) λ_ _ _ h=>Mq h
theorem av:JE X (.Constant (.int i) j pos) (fC (.int i)):=PE.to LA λ_ _ _ h=>EH (λ_=>.int i) h
theorem iG:JE X (.Constant (.bool i) j pos) (fC (.bl i)):=PE.to OQ λ_ _ _ h=>EH (λ_=>.bl i) h
theorem eF:JE X (.Constant .none j pos) (fC .non):=PE.to LB λ_ _ _ h=>EH (λ_=>.non) h
theorem aB:JE X (.Constant (.str x) j pos) (fC (.str x)):=PE.to LC λ_ _ _ h=>EH (λ_=>.str x) h
theorem Ic (hg:Gl X x)(hm:X.mg x=some u)(r:aX v u)(i:∀B,Is X.K B v d)(hd:(x == ("__debug__" : Str))=false:=by decide):JE X (.Name x pos) (fC d):=PE.to (AT hg hm r hd) λ_ _ _ h=>EH i h
theorem ax (ho:dr X (binaryOp op) (rD X.K f))(ha:JE X a fa)(hb:JE X b fb):JE X (.BinOp a op b pos) (f2 f fa fb):=PE.to (Kh ho ha hb) λ_ _ _ h=>HQ h
theorem Ku (ho:Pj X (unaryOp op) (SG X.K f))(ha:JE X a fa):JE X (.UnaryOp op a pos) (f1 f fa):=PE.to (Pk ho ha) λ_ _ _ h=>SH h
theorem cC (ho:dr X (compareOp op) (rD X.K f))(ha:JE X a fa)(hb:JE X b fb)(hm:behindInMarks op b=false:=by first|exact jQ _ (by decide) (by decide)|rfl):JE X (.Compare a [op] [b] pos) (f2 f fa fb):=PE.to (HB ho ha hb hm) λ_ _ _ h=>HQ h
theorem zY {K:Frag}{f:FE}{σ:St}{H:Hp}{Q:Bool->Hp->Prop}(h:CN K (bp f) σ H Q):tD K f σ H λx H'=>∃k,x=.bl k/\Q k H':=by
 obtain⟨B,ρ,c,s,r,e,q⟩:=h;unfold bp at e;split at e
 ·rename_i c' b' ef;cases e
  refine⟨B,ρ,.bl c,b',s,r,ef,λv H' N x i _=>?_⟩;cases i
  exact⟨c,rfl,q H' x.hh⟩
 ·cases e
theorem aK (ho:dr X (compareOp op) (rD X.K f))(ha:JE X a fa)(hb:JE X b fb)(hm:behindInMarks op b=false:=by first|exact jQ _ (by decide) (by decide)|rfl):JT X (.Compare a [op] [b] pos) (bp (f2 f fa fb)) :=
 PT.to (HC ho ha hb hm) λ_ _ _ h=>HQ (zY h)
theorem cq (h:JE X e f)(he:∀rR,isTrue e X.env rR=(do let v ←rR;standAt e.pos;holding [v] (truthy v)):=by intro _;rfl):JT X e (bp f):=PT.to (LG h he) λ_ _ _ q=>zY q
@[simp] noncomputable def jx (f g:D->D->OB)(fa fb fc:FE):FE:=λρ=>(fa ρ).bind λx=>(fb ρ).bind λy=>match f x.1 y.1 with
 |some (.bl true,_)=>(fc ρ).bind λz=>g y.1 z.1
 |some (.bl false,_)=>some (.bl false,false)
 |_=>none
theorem xp {K:Frag}{f g:D->D->OB}{fa fb fc:FE}{σ:St}{H:Hp}{Q:VK}(h:tD K (jx f g fa fb fc) σ H Q):zH (rD K f) (rD K g) (tD K fa) (tD K fb) (tD K fc) σ H Q:=by
 obtain⟨B,ρ,d,b,s,r,e,q⟩:=h;obtain⟨x,ex,e⟩:=oX e;obtain⟨y,ey,e⟩:=oX e;refine⟨B,ρ,x.1,x.2,s,r,ex,λv H1 N1 x1 i1 _=>⟨N1,ρ,y.1,y.2,x1.nh,r.mono x1.bn,ey,λv2 H2 N2 x2 i2 _=>?_⟩⟩;split at e
 ·rename_i b' ef;obtain⟨z,ez,e⟩:=oX e;refine⟨N2,x.1,y.1,.bl true,b',x2.nh,i1.mono x2.bn,i2,ef,λv3 H3 N3 x3 i3 _=>?_⟩;cases i3
  refine⟨true,rfl,?_⟩;rw[if_pos rfl];refine⟨N3,ρ,z.1,z.2,x3.nh,r.mono (x1.bn.trans (x2.bn.trans x3.bn)),ez,λv4 H4 N4 x4 i4 _=>⟨N4,y.1,z.1,d,b,x4.nh,i2.mono (x3.bn.trans x4.bn),i4,e,?_⟩⟩;exact q.into ((x1.trans x2).trans (x3.trans x4))
 ·rename_i b' ef;cases e
  refine⟨N2,x.1,y.1,.bl false,b',x2.nh,i1.mono x2.bn,i2,ef,λv3 H3 N3 x3 i3 _=>?_⟩;cases i3
  refine⟨false,rfl,?_⟩;rw[if_neg (by decide)];exact(q.into ((x1.trans x2).trans x3)).one x3.nh (.bl false)
 ·cases e
theorem EI (ho:dr X (compareOp op) (rD X.K f))(oR:dr X (compareOp DN) (rD X.K g))(ha:JE X a fa)(hb:JE X b fb)(hc:JE X c fc)
  (hm:lastMarks [op,DN] [b,c]=false:=by with_unfolding_all rfl):JE X (.Compare a [op,DN] [b,c] pos) (jx f g fa fb fc):=PE.to (Et ho oR ha hb hc hm) λ_ _ _ h=>xp h
theorem EJ (ho:dr X (compareOp op) (rD X.K f))(oR:dr X (compareOp DN) (rD X.K g))(ha:JE X a fa)(hb:JE X b fb)(hc:JE X c fc)
  (hm:lastMarks [op,DN] [b,c]=false:=by with_unfolding_all rfl):JT X (.Compare a [op,DN] [b,c] pos) (bp (jx f g fa fb fc)):=PT.to (Eu ho oR ha hb hc hm) λ_ _ _ h=>xp (zY h)
theorem Ie {K:Frag}{f g:FT}{σ:St}{H:Hp}{Q:Bool->Hp->Prop}(h:CN K (dj f g) σ H Q):OS (CN K f) (CN K g) σ H Q:=by
 obtain⟨B,ρ,c,s,r,e,q⟩:=h;unfold dj at e;cases ef:f ρ with
 |none=>rw[ef]at e;cases e
 |some k=>
  rw[ef]at e;refine⟨B,ρ,k,s,r,ef,λH1 h1=>?_⟩;cases k with
  |true=>rw[if_pos rfl];exact⟨B,ρ,c,s.trans h1,r,e,λH2 h2=>q H2 (h1.trans h2)⟩
  |false=>rw[if_neg (by decide)];cases e;exact q H1 h1
theorem Mu {K:Frag}{f g:FT}{σ:St}{H:Hp}{Q:Bool->Hp->Prop}(h:CN K (jN f g) σ H Q):UJ (CN K f) (CN K g) σ H Q:=by
 obtain⟨B,ρ,c,s,r,e,q⟩:=h;unfold jN at e;cases ef:f ρ with
 |none=>rw[ef]at e;cases e
 |some k=>
  rw[ef]at e;refine⟨B,ρ,k,s,r,ef,λH1 h1=>?_⟩;cases k with
  |false=>rw[if_neg (by decide)];exact⟨B,ρ,c,s.trans h1,r,e,λH2 h2=>q H2 (h1.trans h2)⟩
  |true=>rw[if_pos rfl];cases e;exact q H1 h1
theorem Ig {K:Frag}{f:FT}{σ:St}{H:Hp}{Q:Bool->Hp->Prop}(h:CN K (fj f) σ H Q):OT (CN K f) σ H Q:=by
 obtain⟨B,ρ,c,s,r,e,q⟩:=h;obtain⟨k,ek,e⟩:=oY e;subst e;exact⟨B,ρ,k,s,r,ek,λH1 h1=>q H1 h1⟩
variable {aC:List Expr}
theorem gH (ha:JT X a f):JW X (.BoolOp .And [a] pos) f:=Ht ha
theorem ly (ha:JT X a f):JW X (.BoolOp .Or [a] pos) f:=LH ha
theorem iQ (ha:JT X a f)(hb:JW X (.BoolOp .And (b::aC) pos) g):JW X (.BoolOp .And (a::b::aC) pos) (dj f g):=PW.to (LI ha hb) λ_ _ _ h=>Ie h
theorem ma (ha:JT X a f)(hb:JW X (.BoolOp .Or (b::aC) pos) g):JW X (.BoolOp .Or (a::b::aC) pos) (jN f g):=PW.to (OU ha hb) λ_ _ _ h=>Mu h
theorem kT (h:JW X e f):JT X e f:=h.pt
theorem gz (ha:JT X a f):JT X (.UnaryOp .Not a pos) (fj f):=PT.to (LJ ha) λ_ _ _ h=>Ig h
@[simp] noncomputable def kU (f g:FE):FE:=λρ=>match f ρ with|some (.bl true,_)=>g ρ|some (.bl false,_)=>some (.bl false,false)|_=>none
@[simp] noncomputable def Mv (f g:FE):FE:=λρ=>match f ρ with|some (.bl true,_)=>some (.bl true,false)|some (.bl false,_)=>g ρ|_=>none
@[simp] noncomputable def WB (f:FE):FE:=λρ=>match f ρ with|some (.bl c,_)=>some (.bl (!c),false)|_=>none
theorem gR (ha:JE X a f)(hb:JE X (.BoolOp .And (b::aC) pos) g):JE X (.BoolOp .And (a::b::aC) pos) (kU f g):=PE.to (LL ha hb) λσ H Q h=>by
 obtain⟨B,ρ,d,k,s,r,e,q⟩:=h;unfold kU at e;split at e
 ·rename_i b' ef;refine⟨B,ρ,_,_,s,r,ef,λv H1 N1 x1 i1 _=>?_⟩;cases i1
  refine⟨true,rfl,?_⟩;rw[if_pos rfl];exact⟨N1,ρ,d,k,x1.nh,r.mono x1.bn,e,q.into x1⟩
 ·rename_i b' ef;cases e
  refine⟨B,ρ,_,_,s,r,ef,λv H1 N1 x1 i1 _=>?_⟩;cases i1
  refine⟨false,rfl,?_⟩;rw[if_neg (by decide)];exact(q.into x1).one x1.nh (.bl false)
 ·cases e
theorem EK (ha:JE X a f)(hb:JE X (.BoolOp .Or (b::aC) pos) g):JE X (.BoolOp .Or (a::b::aC) pos) (Mv f g):=PE.to (OW ha hb) λσ H Q h=>by
 obtain⟨B,ρ,d,k,s,r,e,q⟩:=h;unfold Mv at e;split at e
 ·rename_i b' ef;cases e
  refine⟨B,ρ,_,_,s,r,ef,λv H1 N1 x1 i1 _=>?_⟩;cases i1
  refine⟨true,rfl,?_⟩;rw[if_pos rfl];exact(q.into x1).one x1.nh (.bl true)
 ·rename_i b' ef;refine⟨B,ρ,_,_,s,r,ef,λv H1 N1 x1 i1 _=>?_⟩;cases i1
  refine⟨false,rfl,?_⟩;rw[if_neg (by decide)];exact⟨N1,ρ,d,k,x1.nh,r.mono x1.bn,e,q.into x1⟩
 ·cases e
theorem fM (h:JE X a f):JE X (.BoolOp op [a] pos) f:=LK h
variable {es:List Expr}
theorem ao:JA X [] aj:=PA.to jR λ_ _ _ h=>HS h
theorem ah (ha:JE X e f)(hr:JA X es g)(hs:starEach (e::es) X.env=(false,eval e X.env)::starEach es X.env:=by rfl):JA X (e::es) (af f g):=PA.to (iF ha hr hs) λ_ _ _ h=>E9 h
@[simp] noncomputable def aY:List D->OB:=λds=>if ds.length<=sizeLine then some (.tup ds,false)else none
@[simp] noncomputable def bD:List D->OB:=λds=>if ds.length<=sizeLine then some (.lst ds,true)else none
theorem aW {x1}(h:JA X es f):JE X (.Tuple es x1 pos) (fA aY f):=PE.to (zK h) λσ H Q q=>by
 obtain⟨B,ρ,ds,s,r,e,k⟩:=HR q;refine⟨B,ρ,ds,s,r,e,λvs H1 N1 x1 i1=>?_⟩;obtain⟨B2,V9,d,b,s2,i2,e2,k2⟩:=k vs H1 N1 x1 i1;unfold aY at e2;split at e2
 ·rename_i hz;cases e2
  refine⟨by rw[i2.length];exact hz,λp hp=>k2 _ _ (upd B2 p (.tup vs)) (.laid s2 hp) (.tup (iZ.of aE) (i2.mono (Ext.laid s2 hp).bn)) (by simp)⟩
 ·cases e2
theorem bE (h:JA X es f):JE X (.List es pos) (fA bD f):=PE.to (Me h) λσ H Q q=>by
 obtain⟨B,ρ,ds,s,r,e,k⟩:=HR q;refine⟨B,ρ,ds,s,r,e,λvs H1 N1 x1 i1=>?_⟩;obtain⟨B2,V9,d,b,s2,i2,e2,k2⟩:=k vs H1 N1 x1 i1;unfold bD at e2;split at e2
 ·rename_i hz;cases e2
  refine⟨by rw[i2.length];exact hz,λp hp=>k2 _ _ (upd B2 p (.lst vs)) (.laid s2 hp) (.lst (iA.of aE) (i2.mono (Ext.laid s2 hp).bn)) λ_=>⟨p,vs,V9,rfl,rfl,hp,aE,i2.mono (Ext.laid s2 hp).bn⟩⟩
 ·cases e2
end
section
variable {X:Cx}
theorem iR (h:dr X f r)(k:∀x y H Q,r' x y H Q->r x y H Q):dr X f r':=λae s σ H x y v u Q I rx ry q=>h ae s σ H x y v u Q I rx ry (k x y H Q q)
noncomputable def Ee (f g:D->D->OB):D->D->OB:=λx y=>match f x y with|some r=>some r|none=>g x y
theorem mU (h:dr X s (rD X.K f))(h':dr X s (rD X.K g)):dr X s (rD X.K (Ee f g)):=by
 intro ae st σ H x y v u Q I rx ry q;obtain⟨B,dx,dy,d,b,sB,ix,iy,e,q⟩:=q;unfold Ee at e;split at e
 ·rename_i r ef;cases e
  exact h ae st σ H x y v u Q I rx ry ⟨B,dx,dy,_,_,sB,ix,iy,ef,q⟩
 ·exact h' ae st σ H x y v u Q I rx ry ⟨B,dx,dy,_,_,sB,ix,iy,e,q⟩
@[simp] noncomputable def z8 (C:Int->Int->Bool)(g:Int->Int->D):D->D->OB
 |.int i,.int j=>if C i j=true then some (g i j,false)else none
 |_,_=>none
theorem ve (h:dr X s (rI C g))(hC:∀i j,C' i j=true->C i j)(hg:∀i j B,Is X.K B (g i j) (g' i j)):dr X s (rD X.K (z8 C' g')):=by
 refine iR h λx y H Q q=>?_;obtain⟨B,dx,dy,d,b,sB,ix,iy,e,q⟩:=q;cases ix<;>try (cases e;done)
 cases iy<;>try (cases e;done)
 rename_i i j;simp only[z8]at e;split at e
 ·rename_i hc;cases e
  exact⟨i,j,rfl,rfl,hC i j hc,q.one sB (hg i j B)⟩
 ·cases e
theorem gS (h:dr X s (Hb g))(hg:∀i j B,Is X.K B (g i j) (g' i j)):dr X s (rD X.K (z8 (λ_ _=>true) g')):=by
 refine iR h λx y H Q q=>?_;obtain⟨B,dx,dy,d,b,sB,ix,iy,e,q⟩:=q;cases ix<;>try (cases e;done)
 cases iy<;>try (cases e;done)
 rename_i i j;simp only[z8,if_true]at e;cases e
 exact⟨i,j,rfl,rfl,q.one sB (hg i j B)⟩
abbrev Mw:D->D->OB:=z8 (λ_ _=>true) λi j=>.int (i+j)
abbrev oJ:D->D->OB:=z8 (λ_ _=>true) λi j=>.int (i - j)
abbrev Mx:D->D->OB:=z8 (λi j=>decide ((-18446744073709551616<i/\i<18446744073709551616)∨(-18446744073709551616<j/\j<18446744073709551616))) λi j=>.int (i*j)
abbrev cP:D->D->OB:=z8 (λ_ j=>decide (0<j/\j<1073741824)) λi j=>.int (i / j)
abbrev bG:D->D->OB:=z8 (λ_ j=>decide (0<j)) λi j=>.int (i % j)
abbrev P9:D->D->OB:=z8 (λ_ _=>true) λi j=>.int (Builtin.bitAnd i j)
abbrev UW:D->D->OB:=z8 (λ_ _=>true) λi j=>.bl (decide (i<j))
abbrev SI:D->D->OB:=z8 (λ_ _=>true) λi j=>.bl (decide (i<=j))
abbrev Hf:D->D->OB:=z8 (λ_ _=>true) λi j=>.bl (decide (j<i))
abbrev SJ:D->D->OB:=z8 (λ_ _=>true) λi j=>.bl (decide (j<=i))
theorem PB:dr X (binaryOp .Add) (rD X.K Mw):=gS LX λ_ _ _=>.int _
theorem xq:dr X (binaryOp .Sub) (rD X.K oJ):=gS LY λ_ _ _=>.int _
theorem PD:dr X (binaryOp .Mult) (rD X.K Mx):=ve LZ (λi j h=>by have h:=of_decide_eq_true h;unfold Hz;omega) λ_ _ _=>.int _
theorem bJ:dr X (binaryOp .FloorDiv) (rD X.K cP):=ve HA (λi j h=>by have h:=of_decide_eq_true h;unfold Pl;omega) λ_ _ _=>.int _
theorem bH:dr X (binaryOp .Mod) (rD X.K bG):=ve Ma (λ_ _ h=>of_decide_eq_true h) λ_ _ _=>.int _
theorem PF:dr X (binaryOp .BitAnd) (rD X.K P9):=gS Mb λ_ _ _=>.int _
theorem SK:dr X (compareOp .Lt) (rD X.K UW):=gS Pm λ_ _ _=>.bl _
theorem SM:dr X (compareOp .LtE) (rD X.K SI):=gS Pn λ_ _ _=>.bl _
theorem EL:dr X (compareOp .Gt) (rD X.K Hf):=gS Po λ_ _ _=>.bl _
theorem SN:dr X (compareOp .GtE) (rD X.K SJ):=gS Pp λ_ _ _=>.bl _
@[simp] noncomputable def Ot (C:Str->Str->Bool)(g:Str->Str->D):D->D->OB
 |.str i,.str j=>if C i j=true then some (g i j,false)else none
 |_,_=>none
abbrev Ih:D->D->OB:=Ot (λi j=>decide (i.length+j.length<=sizeLine)) λi j=>.str (i++j)
abbrev R9:D->D->OB:=Ot (λ_ _=>true) λi j=>.bl (!decide (j.cps.toList<i.cps.toList))
theorem My:dr X (binaryOp .Add) (rD X.K Ih):=by
 refine iR zI λx y H Q q=>?_;obtain⟨B,dx,dy,d,b,sB,ix,iy,e,q⟩:=q;cases ix<;>try (cases e;done)
 cases iy<;>try (cases e;done)
 rename_i i j;simp only[Ih,Ot]at e;split at e
 ·rename_i hc;cases e
  exact⟨i,j,rfl,rfl,of_decide_eq_true hc,q.one sB (.str _)⟩
 ·cases e
theorem PH:dr X (compareOp .LtE) (rD X.K R9):=by
 intro ae s σ H x y v u Q I rx ry q;obtain⟨B,dx,dy,d,b,sB,ix,iy,e,q⟩:=q;cases ix<;>try (cases e;done)
 cases iy<;>try (cases e;done)
 rename_i i j;simp only[R9,Ot,if_true]at e;cases e
 obtain⟨t,rfl⟩:=rx;obtain⟨t',rfl⟩:=ry;exact PySem.P.le_str ⟨.bl _,H,I,rfl,q.one sB (.bl _)⟩
end
section
variable {X:Cx}{a b c e:Expr}{pos:Pos}{st:Stmt}{aC:List Stmt}
theorem eU:wO X [] bo:=uy.to Hu λ_ _ _ h=>EB h
theorem am (h1:JS X st g)(h2:wO X aC h):wO X (st::aC) (a8 g h):=uy.to (Ep h1 h2) λ_ _ _ q=>HU q
theorem bv (h1:JS X st g):wO X [st] g:=Hv h1
theorem fm {c:Expr}{a b:List Stmt}{fc:FT}{g h:FS}(hc:JT X c fc)(ha:wO X a g)(hb:wO X b h):JS X (.If c a b pos) (eO fc g h):=PS.to (Pb hc ha hb) λ_ _ _ q=>Mr q
theorem EM (he:JE X e f):JS X (.Return (some e) pos) (aZ f):=PS.to (Er he) λ_ _ _ q=>HV q
theorem mf (i:Nat)(hN:X.N[i]? = some x:=by rfl)(hv:En X.env.scope x:=by first|exact Or.inl rfl|exact Or.inr (Or.inl rfl)|exact Or.inr (Or.inr rfl))(hd:(x == ("__debug__" : Str))=false:=by decide)
  (jv:(x == ("__classdict__" : Str))=false:=by decide):JS X (.Return (some (.Name x p)) pos) (jH i):=PS.to (Er (lw hN hv hd jv)) λ_ _ _ q=>EC q
theorem aD (hN:X.N.Nodup)(he:JE X e f)(hi:X.N[i]? = some x:=by rfl)(hx:Ha X.env.scope x:=by first|exact Or.inl rfl|exact Or.inr rfl)(hs:swapsWith e (some (.Name x p)) pos.line X.env=pure false:=by rfl)
  (hf:X.fn x=true∨X.env.scope.names.lookup x=some .local:=by first|exact .inl rfl|exact .inr rfl):JS X (.Assign [.Name x p] e pos) (aQ i f):=PS.to (u6 hN hi hx he hs hf) λ_ _ _ q=>Bc q
theorem Ii (hN:X.N.Nodup)(he:JE X e f)(hi:X.N[i]? = some x:=by rfl)(hx:Ha X.env.scope x:=by first|exact Or.inl rfl|exact Or.inr rfl)(hs:swapsWith e (some (.Name x p)) pos.line X.env=pure false:=by rfl)
  (hf:X.fn x=true∨X.env.scope.names.lookup x=some .local:=by first|exact .inl rfl|exact .inr rfl):JS X (.Assign [.Name x p] e pos) (xm i f):=PS.to (u6 hN hi hx he hs hf) λ_ _ _ q=>ED q
theorem Mz (hp:PassesOwn (model X.prog X.w) X.A X.env X.xe)(hc:X.calm=true)(hi:JI X tg cV fi)(hg:PG X tg t)(ht:HX X.K p5 t)(hb:wO X body g)
  (hs:∀x,foldedSetIterable cV X.env x=pure x:=by intro _;rfl):JS X (.For tg cV body [] pos) (pC fi p5 g):=PS.to (Es hp hc hi hg hb hs) λ_ _ _ q=>HY ht q
theorem Ij (hp:PassesOwn (model X.prog X.w) X.A X.env X.xe)(hc:X.calm=true)(hi:PI X tg cV (P8 X.K fi))(hg:PG X tg t)(ht:HX X.K p5 t)(hb:wO X body g)
  (hs:∀x,foldedSetIterable cV X.env x=pure x:=by intro _;rfl):JS X (.For tg cV body [] pos) (lX fi p5 g):=PS.to (Es hp hc hi hg hb hs) λ_ _ _ q=>EG ht q
theorem iS (he:JE X e f)(hN:X.N[i]? = some x:=by rfl)(hv:En X.env.scope x:=by first|exact Or.inl rfl|exact Or.inr (Or.inl rfl)|exact Or.inr (Or.inr rfl))(hd:(x == ("__debug__" : Str))=false:=by decide)
  (jv:(x == ("__classdict__" : Str))=false:=by decide)
  (iw:attributeBase (.Name x p) "append" X.env (eval (.Name x p) X.env)=eval (.Name x p) X.env:=by rfl)
  (AO:((backTo cA (starEach [e] X.env)).all (λx=>!x.1) && (backToKw cA (keywordEach [] X.env)).all (λx=>x.1.isSome)
   && decide ([e].length+([]:List Keyword).length+(if([]:List Keyword).isEmpty then 0 else 1)<30))=true:=by rfl)
  (iz:(dw.endLine == cA.line)=true:=by rfl) (hs:starEach [e] X.env=[(false,eval e X.env)]:=by rfl) (QI:swapsWith (.Call (.Attribute (.Name x p) "append" dw) [e] [] cA) none pos.line X.env=pure false:=by rfl):
  JS X (.Expr (.Call (.Attribute (.Name x p) "append" dw) [e] [] cA) pos) (jV i f):=by
 refine PS.to (Hw (E1 PySem.F.plainAttrs_list PySem.F.slot_list_append PySem.F.type_list_append sO (lw hN hv hd jv) (iF he jR hs) iw AO iz hs rfl) QI) λE σ H q=>?_;obtain⟨a,us,h1,h2,k⟩:=HW q;exact⟨_,h1,.inl ⟨rfl,us,iA.of h2⟩,k⟩
end
@[simp] noncomputable def aN (g:FS)(n k:Nat):List D->OB:=λds=>if ds.length=n then
 match g (ds.map (λd=>some (d,false))++List.replicate k none) with
 |some (.rt d b)=>some (d,b)
 |some (.nx _)=>some (.non,false)
 |_=>none
 else none
def Ik (K:Frag)(f:List D->OB):Sp:=λvs H Q _=>∃(B:Hp)(ds:List D)(d:D)(b:Bool),(aU B H/\Tb K B)/\IsL K B vs ds/\f ds=some (d,b)/\Fin K B H d b Q
theorem xr {K:Frag}{B H:Hp}{vs:List V}{ds:List D}{N:List Str}(sB:aU B H)(tb:Tb K B)(i:IsL K B vs ds):eE K B H B H (L2.jG N vs) (ds.map (λd=>some (d,false))++List.replicate (N.length - vs.length) none):=by
 have nf:∀(j:Nat)(d:D)(b:Bool),(ds.map (λd=>some (d,false))++List.replicate (N.length - vs.length) none:Env)[j]? = some (some (d,b))->b=false/\ds[j]? = some d:=λj d b e=>by
  by_cases hj:j<ds.length
  ·rw[List.getElem?_append_left (by simpa using hj),vA]at e;obtain⟨d',h1,h2⟩:=oY e;cases h2
   exact⟨rfl,h1⟩
  ·rw[List.getElem?_append_right (by simpa using Nat.not_lt.mp hj),List.getElem?_replicate]at e;split at e<;>cases e
 have no:∀a,¬own (L2.jG N vs) (ds.map (λd=>some (d,false))++List.replicate (N.length - vs.length) none) a:=λa ⟨j,d,h,_⟩=>by
  obtain⟨z,_⟩:=nf j d true h;cases z
 refine⟨sB,tb,.refl sB,?_,λj d e=>?_,λj d e=>?_,λj k a d e h=>?_⟩
 ·unfold L2.jG;rw[uZ,uZ,vI,vI,List.length_replicate,List.length_replicate,i.length]
 ·obtain⟨_,e1⟩:=nf j d false e;obtain⟨v,h1,h2⟩:=i.get e1;refine⟨v,?_,h2.mono λa o e=>by rw[cO (no a)];exact e⟩;unfold L2.jG;have hj:j<vs.length:=(vV h1).1;rw[List.getElem?_append_left (by simpa using hj),vA,h1]<;>rfl
 ·obtain⟨z,_⟩:=nf j d true e;cases z
 ·obtain⟨z,_⟩:=nf j d true h;cases z
section
variable {P:Program}{w:World}{K:Frag}{mg:Str->Option Value}{base:Heap}
theorem PJ {x qual:Str}{st:Stmt}{f:Addr}{fd:FuncData}{N ps:List Str}{k:Nat}{g:FS}(F:NE K x qual st f fd)(S:FnScope N ps (aP st))
  (hb:∀(eI:Value)(A:Around)(outer:List PySem.Env)(s:Shared)(H:Hp)(E:XK),eN k (A.deeper (envOfC qual (aP st) s.heap.objs.size f eI))->wO (oF z7 P w K mg base N qual (aP st) f eI A outer s H E).nox (cG st) g):
  sw P w K mg base z7 (k+1) f fd ps (Ik K (aN g ps.length (N.length - ps.length))):=by
 have len:∀vs H Q E,Ik K (aN g ps.length (N.length - ps.length)) vs H Q E->vs.length=ps.length:=λvs H Q E h=>by
  obtain⟨B,ds,d,b,sB,i,e,q⟩:=h;unfold aN at e;split at e
  ·rename_i hl;rw[i.length];exact hl
  ·cases e
 refine F.ok S len λeI A outer s H vs Q E hr h=>⟨_,hb eI A outer s H E hr,?_⟩;have bF:=len vs H Q E h;obtain⟨B,ds,d,b,sB,i,e,q⟩:=h;unfold aN at e;rw[if_pos (by rw[←i.length];exact bF)]at e;have s0:=xr (N:=N) sB.1 sB.2 i;rw[bF]at s0;split at e
 ·rename_i d' b' eg;cases e
  exact⟨B,H,_,_,⟨B,s0⟩,eg,λv H' N' x' i' f'=>q v H' N' x' i' f'⟩
 ·rename_i ρ' eg;cases e
  exact⟨B,H,_,_,⟨B,s0⟩,eg,λσ' H' ⟨N',s'⟩=>q .non H' N' s'.ext .non (by simp)⟩
 ·cases e
structure Fn (P:Program)(w:World)(K:Frag)(mg:Str->Option Value)(base:Heap)(k:Nat)(x:Str)(f:List D->OB):Prop where
 ex:∃(ad:Addr)(fd:FuncData)(ps:List Str),sw P w K mg base z7 k ad fd ps (Ik K f)/\mg x=some (.ref ad)/\PySem.W.keepIn K (.ref ad)=true/\sE K fd ps []
end
theorem Bd (F:Fn X.prog X.w X.K X.mg X.base k x f)(hr:eN k X.A)(ha:JA X (e::es) fa)(hg:Gl X x:=by rfl)
  (sx:(x == ("__debug__" : Str))=false:=by decide) (he:starEach (e::es) X.env=(false,eval e X.env)::starEach es X.env:=by rfl) (ls:(backTo pos (starEach es X.env)).any (·.1)=false:=by rfl):
  JE X (.Call (.Name x p) (e::es) [] pos) (fA f fa):=by
 obtain⟨ad,fd,ps,F1,hm,hk,hb⟩:=F.ex;refine PE.to (HE F1 hr hg hm hk hb .nil Pz ha sx he ls) λσ H Q q=>?_;obtain⟨B,ρ,d,b,s,r,e,q⟩:=q;obtain⟨ds,ex,e⟩:=oX e;exact⟨B,ρ,ds,s,r,ex,λvs H1 N1 x1 i1=>by
  show Ik X.K f (vs++[]) H1 Q _;rw[uQ];exact⟨N1,ds,d,b,⟨x1.nh,r.tb.mono x1.bn⟩,i1,e,q.into x1⟩⟩
mutual
def bA:D->D->Bool
 |.non,.non=>true
 |.bl a,.bl b=>a == b
 |.bl a,.int b=>decide ((if a then 1 else 0)=b)
 |.int a,.bl b=>decide (a=(if b then 1 else 0))
 |.int a,.int b=>decide (a=b)
 |.str a,.str b=>decide (a=b)
 |.tup xs,.tup ys=>cZ xs ys
 |.lst xs,.lst ys=>cZ xs ys
 |_,_=>false
def cZ:List D->List D->Bool
 |[],[]=>true
 |x::xs,y::ys=>bA x y && cZ xs ys
 |_,_=>false
end
@[simp] theorem xu:bA .non .non=true:=by simp only[bA]
@[simp] theorem zZ (b:Bool):bA .non (.bl b)=false:=by simp only[bA]
@[simp] theorem xw (b:Int):bA .non (.int b)=false:=by simp only[bA]
@[simp] theorem xy (b:Str):bA .non (.str b)=false:=by simp only[bA]
@[simp] theorem Kv (b:List D):bA .non (.tup b)=false:=by simp only[bA]
@[simp] theorem Kw (b:List D):bA .non (.lst b)=false:=by simp only[bA]
@[simp] theorem Aa (a:Bool):bA (.bl a) .non=false:=by simp only[bA]
@[simp] theorem CS (a:Bool)(b:Bool):bA (.bl a) (.bl b)=(a == b):=by simp only[bA]
@[simp] theorem Ab (a:Bool)(b:Int):bA (.bl a) (.int b)=decide ((if a then 1 else 0)=b):=by simp only[bA]
@[simp] theorem Ac (a:Bool)(b:Str):bA (.bl a) (.str b)=false:=by simp only[bA]
@[simp] theorem M0 (a:Bool)(b:List D):bA (.bl a) (.tup b)=false:=by simp only[bA]
@[simp] theorem M2 (a:Bool)(b:List D):bA (.bl a) (.lst b)=false:=by simp only[bA]
@[simp] theorem xz (a:Int):bA (.int a) .non=false:=by simp only[bA]
@[simp] theorem Ad (a:Int)(b:Bool):bA (.int a) (.bl b)=decide (a=(if b then 1 else 0)):=by simp only[bA]
@[simp] theorem xA (a:Int)(b:Int):bA (.int a) (.int b)=decide (a=b):=by simp only[bA]
@[simp] theorem xB (a:Int)(b:Str):bA (.int a) (.str b)=false:=by simp only[bA]
@[simp] theorem Kx (a:Int)(b:List D):bA (.int a) (.tup b)=false:=by simp only[bA]
@[simp] theorem Ky (a:Int)(b:List D):bA (.int a) (.lst b)=false:=by simp only[bA]
@[simp] theorem xC (a:Str):bA (.str a) .non=false:=by simp only[bA]
@[simp] theorem Ae (a:Str)(b:Bool):bA (.str a) (.bl b)=false:=by simp only[bA]
@[simp] theorem xD (a:Str)(b:Int):bA (.str a) (.int b)=false:=by simp only[bA]
@[simp] theorem nW (a:Str)(b:Str):bA (.str a) (.str b)=decide (a=b):=by simp only[bA]
@[simp] theorem Kz (a:Str)(b:List D):bA (.str a) (.tup b)=false:=by simp only[bA]
@[simp] theorem K1 (a:Str)(b:List D):bA (.str a) (.lst b)=false:=by simp only[bA]
@[simp] theorem K2 (a:List D):bA (.tup a) .non=false:=by simp only[bA]
@[simp] theorem M3 (a:List D)(b:Bool):bA (.tup a) (.bl b)=false:=by simp only[bA]
@[simp] theorem K3 (a:List D)(b:Int):bA (.tup a) (.int b)=false:=by simp only[bA]
@[simp] theorem K4 (a:List D)(b:Str):bA (.tup a) (.str b)=false:=by simp only[bA]
@[simp] theorem K5 (a:List D)(b:List D):bA (.tup a) (.tup b)=cZ a b:=by simp only[bA]
@[simp] theorem K6 (a:List D)(b:List D):bA (.tup a) (.lst b)=false:=by simp only[bA]
@[simp] theorem K7 (a:List D):bA (.lst a) .non=false:=by simp only[bA]
@[simp] theorem M4 (a:List D)(b:Bool):bA (.lst a) (.bl b)=false:=by simp only[bA]
@[simp] theorem K8 (a:List D)(b:Int):bA (.lst a) (.int b)=false:=by simp only[bA]
@[simp] theorem K9 (a:List D)(b:Str):bA (.lst a) (.str b)=false:=by simp only[bA]
@[simp] theorem KA (a:List D)(b:List D):bA (.lst a) (.tup b)=false:=by simp only[bA]
@[simp] theorem KE (a:List D)(b:List D):bA (.lst a) (.lst b)=cZ a b:=by simp only[bA]
@[simp] theorem PK:cZ [] []=true:=by rw[cZ]
@[simp] theorem Ou (x y:D)(xs ys:List D):cZ (x::xs) (y::ys)=(bA x y && cZ xs ys):=by rw[cZ]
@[simp] theorem RA (y:D)(ys:List D):cZ [] (y::ys)=false:=by simp only[cZ]
@[simp] theorem RB (x:D)(xs:List D):cZ (x::xs) []=false:=by simp only[cZ]
noncomputable def aq:Nat->D->Bool
 |_,.non=>true
 |_,.bl _=>true
 |_,.int _=>true
 |_,.str _=>true
 |_,.ty _=>false
 |_,.dk _ _=>false
 |_,.dt _ _=>false
 |0,.tup _=>false
 |0,.lst _=>false
 |n+1,.tup ds=>ds.all (aq n)
 |n+1,.lst ds=>ds.all (aq n)
@[simp] theorem M5 (n:Nat):aq n .non=true:=by cases n<;>simp only[aq]
@[simp] theorem Ov (n:Nat)(a:Bool):aq n (.bl a)=true:=by cases n<;>simp only[aq]
@[simp] theorem M6 (n:Nat)(a:Int):aq n (.int a)=true:=by cases n<;>simp only[aq]
@[simp] theorem M7 (n:Nat)(a:Str):aq n (.str a)=true:=by cases n<;>simp only[aq]
@[simp] theorem Ow (n:Nat)(ks:List cw)(vs:List D):aq n (.dk ks vs)=false:=by cases n<;>simp only[aq]
@[simp] theorem Ox (n:Nat)(ks:List (List cw))(vs:List D):aq n (.dt ks vs)=false:=by cases n<;>simp only[aq]
@[simp] theorem M8 (n:Nat)(ds:List D):aq (n+1) (.tup ds)=ds.all (aq n):=by simp only[aq]
@[simp] theorem M9 (n:Nat)(ds:List D):aq (n+1) (.lst ds)=ds.all (aq n):=by simp only[aq]
theorem xE:∀ {xs ys:List D},cZ xs ys=true->xs.length=ys.length
 |[],[],_=>rfl
 |x::xs,y::ys,h=>by
  simp only[cZ,vC]at h;rw[vE,vE,xE h.2]
 |[],_::_,h=>by simp[cZ]at h
 |_::_,[],h=>by simp[cZ]at h
theorem vg (h:xs.length≠ys.length):cZ xs ys=false:=by
 cases e:cZ xs ys with
 |false=>rfl
 |true=>exact absurd (xE e) h
theorem jy (f:Nat->Bool):∀ {xs ys:List D},xs.length=ys.length->(∀(j:Nat) x y,xs[j]? = some x->ys[j]? = some y->f j=bA x y)->(List.range xs.length).all f=cZ xs ys
 |[],[],_,_=>by simp[cZ]
 |x::xs,y::ys,hl,h=>by
  have e:=jy (λj=>f (j+1)) (xs:=xs) (ys:=ys) (by simpa using hl) λj a b h1 h2=>h (j+1) a b (by simpa using h1) (by simpa using h2);rw[vE,List.range_succ_eq_map,List.all_cons,List.all_map,cZ,←h 0 x y rfl rfl,←e];rfl
 |[],_::_,hl,_=>by simp at hl
 |_::_,[],hl,_=>by simp at hl
section
variable {X:Cx}{ae:List (Addr×Obj)}{σ:St}{H:Hp}{s:Shared}
theorem Be (I:Inv X ae σ H s)(h1:iZ X.K H a vs)(h2:iA X.K H a ws):False:=by
 obtain⟨its,_,⟨o,e,c,_⟩,_⟩:=I.tuple h1;obtain⟨its',_,⟨o',n',e',c',_⟩,_⟩:=I.list h2;rw[e]at e';cases e';rw[c]at c';injection c' with z;exact absurd z (by decide)
theorem Bf (I:Inv X ae σ H s)(e:s.heap.get? a=some o)(d:o.data=.seq its n):(∀aI ob,H a≠some (.dK aI ob))/\∀aI,H a≠some (.dT aI):=by
 refine⟨λaI ob h=>?_,λaI h=>?_⟩
 ·obtain⟨_,_,_,_,_,o',es,ep,e',_,d',_⟩:=(show ce X.prog X.w H s.heap a (.dK aI ob)from I.hok a _ h);rw[e]at e';cases e';rw[d]at d';cases d'
 ·obtain⟨_,_,_,_,o',es,ep,e',_,d',_⟩:=(show ce X.prog X.w H s.heap a (.dT aI)from I.hok a _ h);rw[e]at e';cases e';rw[d]at d';cases d'
theorem xF (I:Inv X ae σ H s)(h1:iZ X.K H a vs):(∀aI ob,H a≠some (.dK aI ob))/\∀aI,H a≠some (.dT aI):=by
 obtain⟨its,_,⟨o,e,c,n,d⟩,_⟩:=I.tuple h1;exact Bf I e d
theorem xG (I:Inv X ae σ H s)(h1:iA X.K H a vs):(∀aI ob,H a≠some (.dK aI ob))/\∀aI,H a≠some (.dT aI):=by
 obtain⟨its,_,p,_⟩:=I.list h1;obtain⟨o,e,c,n,d⟩:=p.isList;exact Bf I e d
theorem Bg (I:Inv X ae σ H s):∀(n:Nat){v:V}{d d':D},Is X.K H v d->Is X.K H v d'->aq n d=true->bA d d'=true:=by
 have lists:∀ {p:D->Bool}(ih:∀ {v:V}{d d':D},Is X.K H v d->Is X.K H v d'->p d=true->bA d d'=true) {vs:List V}{ds JV:List D},IsL X.K H vs ds->IsL X.K H vs JV->ds.all p=true->cZ ds JV=true:=by
  intro p ih vs;induction vs with
  |nil=>intro ds JV h h' _;cases h;cases h';simp[cZ]
  |cons v vs X9=>
   intro ds JV h h' hp;cases h with
   |cons h1 h2=>
    cases h' with
    |cons h3 h4=>
     rw[List.all_cons,vC]at hp;rw[cZ,ih h1 h3 hp.1,X9 h2 h4 hp.2];rfl
 intro n;induction n with
 |zero=>
  intro v d d' h h' hp;cases h<;>cases h'<;>first|(simp[aq]at hp;done)|simp[bA]
 |succ n ih=>
  intro v d d' h h' hp;cases h with
  |tup h1 h2=>
   cases h' with
   |tup h3 h4=>
    rw[I.tuple_inj h3 h1]at h4;rw[bA];exact lists ih h2 h4 (by simpa [aq]using hp)
   |lst h3 h4=>exact(Be I h1 h3).elim
   |dk h3 _ _=>exact((xF I h1).1 _ _ h3).elim
   |dt h3 _ _=>exact((xF I h1).2 _ h3).elim
  |lst h1 h2=>
   cases h' with
   |lst h3 h4=>
    rw[I.list_inj h3 h1]at h4;rw[bA];exact lists ih h2 h4 (by simpa [aq]using hp)
   |tup h3 h4=>exact(Be I h3 h1).elim
   |dk h3 _ _=>exact((xG I h1).1 _ _ h3).elim
   |dt h3 _ _=>exact((xG I h1).2 _ h3).elim
  |ty=>simp[aq]at hp
  |dk=>simp[aq]at hp
  |dt=>simp[aq]at hp
  |_=>cases h'<;>simp[bA]
theorem KG {α:Type}{p:α->Bool}{l:List α}{j:Nat}{x:α}(h:l.all p=true)(e:l[j]? = some x):p x=true:=uR h x (vL e)
theorem xH {A:Around}{p:D->Bool}(ih:∀ {v1 v2:V}{d1 d2:D}{u1 u2:Value},p d1=true->p d2=true->Is X.K H v1 d1->Is X.K H v2 d2->aX v1 u1->aX v2 u2->SeqAt.EqAt A s u1 u2 (bA d1 d2))
  {vs ws:List V}{ds es:List D}{its gu:List Value}(i1:IsL X.K H vs ds) (i2:IsL X.K H ws es) (r1:aT vs its) (r2:aT ws gu) (p1:ds.all p=true) (p2:es.all p=true):
  ∀j (h1:j<its.toArray.size) (h2:j<gu.toArray.size),SeqAt.EqAt A s its.toArray[j] gu.toArray[j] (bA (ds.getD j .non) (es.getD j .non)):=by
 intro j h1 h2;rw[vH]at h1 h2;have l1:=r1.length;have l2:=r2.length;have l3:=i1.length;have l4:=i2.length;have hv:j<vs.length:=by omega
 have hw:j<ws.length:=by omega
 have hd:j<ds.length:=by omega
 have he:j<es.length:=by omega
 obtain⟨u,e1,q1⟩:=r1.get (i:=j) (x:=vs[j]) (by simp[hv]);obtain⟨u',e2,q2⟩:=r2.get (i:=j) (x:=ws[j]) (by simp[hw]);obtain⟨v,e3,q3⟩:=i1.get (i:=j) (d:=ds[j]) (by simp[hd]);obtain⟨w,e4,q4⟩:=i2.get (i:=j) (d:=es[j]) (by simp[he]);have a1:its.toArray[j]=u:=by have z:=(vV e1).2;simpa using z
 have a2:gu.toArray[j]=u':=by have z:=(vV e2).2;simpa using z
 have a3:vs[j]=v:=by simpa [hv]using e3
 have a4:ws[j]=w:=by simpa [hw]using e4
 have a5:ds.getD j .non=ds[j]:=by simp[List.getD,hd]
 have a6:es.getD j .non=es[j]:=by simp[List.getD,he]
 rw[a1,a2,a5,a6];exact ih (KG p1 (j:=j) (by simp[hd])) (KG p2 (j:=j) (by simp[he])) (a3 ▸ q3) (a4 ▸ q4) q1 q2
theorem vh {xs ys:List D}(j:Nat)(x y:D)(h1:xs[j]? = some x)(h2:ys[j]? = some y):bA (xs.getD j .non) (ys.getD j .non)=bA x y:=by
 simp[List.getD,h1,h2]
abbrev UX (A:Around)(s:Shared)(u1 u2:Value)(b:Bool):Prop:=SeqAt.RcAt A s u1 u2 b/\SeqAt.EqAt A s u1 u2 b/\SeqAt.RcNeAt A s u1 u2 (!b)
theorem bX (p1:aq 0 d1=true)(p2:aq 0 d2=true)(i1:Is X.K H v1 d1)(i2:Is X.K H v2 d2)(r1:aX v1 u1)(r2:aX v2 u2):UX A s u1 u2 (bA d1 d2):=by
 cases i1 with
 |non=>
  cases r1
  cases i2 with
  |non=>
   cases r2
   rw[xu];exact⟨SeqAt.RcAt.none_none,SeqAt.EqAt.same _,SeqAt.RcNeAt.none_none⟩
  |bl b=>
   cases r2
   rw[zZ];exact⟨SeqAt.RcAt.none_bool _,SeqAt.EqAt.none_bool _,SeqAt.RcNeAt.none_bool _⟩
  |int b=>
   obtain⟨t',rfl⟩:=r2;rw[xw];exact⟨SeqAt.RcAt.none_int _ _,SeqAt.EqAt.none_int _ _,SeqAt.RcNeAt.none_int _ _⟩
  |str b=>
   obtain⟨t',rfl⟩:=r2;rw[xy];exact⟨SeqAt.RcAt.none_str _ _,SeqAt.EqAt.none_str _ _,SeqAt.RcNeAt.none_str _ _⟩
  |ty=>simp[aq]at p2
  |dk=>simp[aq]at p2
  |dt=>simp[aq]at p2
  |tup=>simp[aq]at p2
  |lst=>simp[aq]at p2
 |bl a=>
  cases r1
  cases i2 with
  |non=>
   cases r2
   rw[Aa];exact⟨SeqAt.RcAt.bool_none _,SeqAt.EqAt.bool_none _,SeqAt.RcNeAt.bool_none _⟩
  |bl b=>
   cases r2
   rw[CS];exact⟨SeqAt.RcAt.bool_bool _ _,SeqAt.EqAt.bool_bool _ _,SeqAt.RcNeAt.bool_bool _ _⟩
  |int b=>
   obtain⟨t',rfl⟩:=r2;rw[Ab,←Bool.beq_eq_decide_eq];exact⟨SeqAt.RcAt.bool_int _ _ _,SeqAt.EqAt.bool_int _ _ _,SeqAt.RcNeAt.bool_int _ _ _⟩
  |str b=>
   obtain⟨t',rfl⟩:=r2;rw[Ac];exact⟨SeqAt.RcAt.bool_str _ _ _,SeqAt.EqAt.bool_str _ _ _,SeqAt.RcNeAt.bool_str _ _ _⟩
  |ty=>simp[aq]at p2
  |dk=>simp[aq]at p2
  |dt=>simp[aq]at p2
  |tup=>simp[aq]at p2
  |lst=>simp[aq]at p2
 |int a=>
  obtain⟨t,rfl⟩:=r1;cases i2 with
  |non=>
   cases r2
   rw[xz];exact⟨SeqAt.RcAt.int_none _ _,SeqAt.EqAt.int_none _ _,SeqAt.RcNeAt.int_none _ _⟩
  |bl b=>
   cases r2
   rw[Ad,←Bool.beq_eq_decide_eq];exact⟨SeqAt.RcAt.int_bool _ _ _,SeqAt.EqAt.int_bool _ _ _,SeqAt.RcNeAt.int_bool _ _ _⟩
  |int b=>
   obtain⟨t',rfl⟩:=r2;rw[xA,←Bool.beq_eq_decide_eq];exact⟨SeqAt.RcAt.int_int _ _ _ _,SeqAt.EqAt.int_int _ _ _ _,SeqAt.RcNeAt.int_int _ _ _ _⟩
  |str b=>
   obtain⟨t',rfl⟩:=r2;rw[xB];exact⟨SeqAt.RcAt.int_str _ _ _ _,SeqAt.EqAt.int_str _ _ _ _,SeqAt.RcNeAt.int_str _ _ _ _⟩
  |ty=>simp[aq]at p2
  |dk=>simp[aq]at p2
  |dt=>simp[aq]at p2
  |tup=>simp[aq]at p2
  |lst=>simp[aq]at p2
 |str a=>
  obtain⟨t,rfl⟩:=r1;cases i2 with
  |non=>
   cases r2
   rw[xC];exact⟨SeqAt.RcAt.str_none _ _,SeqAt.EqAt.str_none _ _,SeqAt.RcNeAt.str_none _ _⟩
  |bl b=>
   cases r2
   rw[Ae];exact⟨SeqAt.RcAt.str_bool _ _ _,SeqAt.EqAt.str_bool _ _ _,SeqAt.RcNeAt.str_bool _ _ _⟩
  |int b=>
   obtain⟨t',rfl⟩:=r2;rw[xD];exact⟨SeqAt.RcAt.str_int _ _ _ _,SeqAt.EqAt.str_int _ _ _ _,SeqAt.RcNeAt.str_int _ _ _ _⟩
  |str b=>
   obtain⟨t',rfl⟩:=r2;rw[nW,←Bool.beq_eq_decide_eq];exact⟨SeqAt.RcAt.str_str _ _ _ _,SeqAt.EqAt.str_str _ _ _ _,SeqAt.RcNeAt.str_str _ _ _ _⟩
  |ty=>simp[aq]at p2
  |dk=>simp[aq]at p2
  |dt=>simp[aq]at p2
  |tup=>simp[aq]at p2
  |lst=>simp[aq]at p2
 |ty=>simp[aq]at p1
 |dk=>simp[aq]at p1
 |dt=>simp[aq]at p1
 |tup=>simp[aq]at p1
 |lst=>simp[aq]at p1
theorem KH (I:Inv X ae σ H s):∀(n:Nat){A:Around}{v1 v2:V}{d1 d2:D}{u1 u2:Value},A.units+n<cLine->aq n d1=true->aq n d2=true->Is X.K H v1 d1->Is X.K H v2 d2->aX v1 u1->aX v2 u2->UX A s u1 u2 (bA d1 d2):=by
 intro n;induction n with
 |zero=>exact λ_ p1 p2 i1 i2 r1 r2=>bX p1 p2 i1 i2 r1 r2
 |succ n ih=>
  intro A v1 v2 d1 d2 u1 u2 hu p1 p2 i1 i2 r1 r2;have fg:A.units<cLine:=by omega
  have QA:∀ {v1 v2:V}{d1 d2:D}{u1 u2:Value},aq n d1=true->aq n d2=true->Is X.K H v1 d1->Is X.K H v2 d2->aX v1 u1->aX v2 u2->SeqAt.EqAt A.in1 s u1 u2 (bA d1 d2):=λp1 p2 i1 i2 r1 r2=>(ih (A:=A.in1) (by show A.units+1+n<cLine;omega) p1 p2 i1 i2 r1 r2).2.1;cases i1 with
  |tup h1 k1=>
   cases r1
   obtain⟨its,NF,t1,z1⟩:=I.tuple h1;have jO:s.heap.IsTuple _ its.toArray:=t1;have q1:=p1;simp only[aq]at q1;cases i2 with
   |tup h2 k2=>
    cases r2
    obtain⟨gu,zD,t2,z2⟩:=I.tuple h2;have nO:s.heap.IsTuple _ gu.toArray:=t2;have q2:=p2;simp only[aq]at q2;rename_i a1 vs ds a2 ws es;have he:=xH (A:=A.in1) (p:=aq n) QA k1 k2 NF zD q1 q2;have QJ:((List.range (min its.toArray.size gu.toArray.size)).all (λj=>bA (ds.getD j .non) (es.getD j .non)) && its.toArray.size == gu.toArray.size)=bA (.tup ds) (.tup es):=by
     rw[bA,vH,vH,←NF.length,←zD.length,k1.length,k2.length];by_cases hl:ds.length=es.length
     ·rw[←hl,Nat.min_self,beq_self_eq_true,Bool.and_true];exact jy _ hl λj x y e1 e2=>vh j x y e1 e2
     ·rw[vg hl,beq_eq_false_iff_ne.mpr hl,Bool.and_false]
    have rc:=SeqAt.RcAt.tuples jO nO fg he;have rn:=SeqAt.RcNeAt.tuples jO nO fg he;rw[QJ]at rc rn;refine⟨rc,?_,rn⟩;by_cases ha:a1=a2
    ·subst ha;rw[Bg I (n+1) (.tup h1 k1) (.tup h2 k2) p1];exact SeqAt.EqAt.same _
    ·exact SeqAt.EqAt.of_refs ha rc
   |lst h2 k2=>
    cases r2
    obtain⟨gu,zD,t2,z2⟩:=I.list h2;rw[show bA (.tup _) (.lst _)=false by simp only[bA]];exact⟨SeqAt.RcAt.tuple_list jO t2.isList fg,SeqAt.EqAt.tuple_list jO t2.isList fg,SeqAt.RcNeAt.tuple_list jO t2.isList fg⟩
   |ty=>simp[aq]at p2
   |dk=>simp[aq]at p2
   |dt=>simp[aq]at p2
   |non=>cases r2;simp only[bA];exact⟨SeqAt.RcAt.tuple_none jO fg,SeqAt.EqAt.tuple_none jO fg,SeqAt.RcNeAt.tuple_none jO fg⟩
   |bl=>cases r2;simp only[bA];exact⟨SeqAt.RcAt.tuple_bool _ jO fg,SeqAt.EqAt.tuple_bool _ jO fg,SeqAt.RcNeAt.tuple_bool _ jO fg⟩
   |int=>obtain⟨t,rfl⟩:=r2;simp only[bA];exact⟨SeqAt.RcAt.tuple_int _ _ jO fg,SeqAt.EqAt.tuple_int _ _ jO fg,SeqAt.RcNeAt.tuple_int _ _ jO fg⟩
   |str=>obtain⟨t,rfl⟩:=r2;simp only[bA];exact⟨SeqAt.RcAt.tuple_str _ _ jO fg,SeqAt.EqAt.tuple_str _ _ jO fg,SeqAt.RcNeAt.tuple_str _ _ jO fg⟩
  |lst h1 k1=>
   cases r1
   obtain⟨its,NF,t1,z1⟩:=I.list h1;have jO:s.heap.IsList _ its.toArray:=t1.isList;have q1:=p1;simp only[aq]at q1;cases i2 with
   |lst h2 k2=>
    cases r2
    obtain⟨gu,zD,t2,z2⟩:=I.list h2;have nO:s.heap.IsList _ gu.toArray:=t2.isList;have q2:=p2;simp only[aq]at q2;rename_i a1 vs ds a2 ws es;have he:=xH (A:=A.in1) (p:=aq n) QA k1 k2 NF zD q1 q2;have both:SeqAt.RcAt A s (.ref a1) (.ref a2) (bA (.lst ds) (.lst es))/\SeqAt.RcNeAt A s (.ref a1) (.ref a2) (!bA (.lst ds) (.lst es)):=by
     by_cases hl:ds.length=es.length
     ·have hs:its.toArray.size=gu.toArray.size:=by rw[vH,vH,←NF.length,←zD.length,k1.length,k2.length];exact hl
      have QJ:(List.range its.toArray.size).all (λj=>bA (ds.getD j .non) (es.getD j .non))=bA (.lst ds) (.lst es):=by
       rw[bA,vH,←NF.length,k1.length];exact jy _ hl λj x y e1 e2=>vh j x y e1 e2
      have rc:=SeqAt.RcAt.lists jO nO hs fg he;have rn:=SeqAt.RcNeAt.lists jO nO hs fg he;rw[QJ]at rc rn;exact⟨rc,rn⟩
     ·have hs:(its.toArray.size != gu.toArray.size)=true:=by rw[vH,vH,←NF.length,←zD.length,k1.length,k2.length];exact bne_iff_ne.mpr hl
      rw[bA,vg hl];exact⟨SeqAt.RcAt.lists_lengths jO nO hs fg,SeqAt.RcNeAt.lists_lengths jO nO hs fg⟩
    refine⟨both.1,?_,both.2⟩;by_cases ha:a1=a2
    ·subst ha;rw[Bg I (n+1) (.lst h1 k1) (.lst h2 k2) p1];exact SeqAt.EqAt.same _
    ·exact SeqAt.EqAt.of_refs ha both.1
   |tup h2 k2=>
    cases r2
    obtain⟨gu,zD,t2,z2⟩:=I.tuple h2;have nO:s.heap.IsTuple _ gu.toArray:=t2;rw[show bA (.lst _) (.tup _)=false by simp only[bA]];exact⟨SeqAt.RcAt.list_tuple jO nO fg,SeqAt.EqAt.list_tuple jO nO fg,SeqAt.RcNeAt.list_tuple jO nO fg⟩
   |ty=>simp[aq]at p2
   |dk=>simp[aq]at p2
   |dt=>simp[aq]at p2
   |non=>cases r2;simp only[bA];exact⟨SeqAt.RcAt.list_none jO fg,SeqAt.EqAt.list_none jO fg,SeqAt.RcNeAt.list_none jO fg⟩
   |bl=>cases r2;simp only[bA];exact⟨SeqAt.RcAt.list_bool _ jO fg,SeqAt.EqAt.list_bool _ jO fg,SeqAt.RcNeAt.list_bool _ jO fg⟩
   |int=>obtain⟨t,rfl⟩:=r2;simp only[bA];exact⟨SeqAt.RcAt.list_int _ _ jO fg,SeqAt.EqAt.list_int _ _ jO fg,SeqAt.RcNeAt.list_int _ _ jO fg⟩
   |str=>obtain⟨t,rfl⟩:=r2;simp only[bA];exact⟨SeqAt.RcAt.list_str _ _ jO fg,SeqAt.EqAt.list_str _ _ jO fg,SeqAt.RcNeAt.list_str _ _ jO fg⟩
  |ty=>simp[aq]at p1
  |dk=>simp[aq]at p1
  |dt=>simp[aq]at p1
  |non=>
   cases i2 with
   |tup h2 k2=>cases r1;cases r2;obtain⟨gu,zD,t2,z2⟩:=I.tuple h2;have nO:s.heap.IsTuple _ gu.toArray:=t2;simp only[bA];exact⟨SeqAt.RcAt.none_tuple nO fg,SeqAt.EqAt.none_tuple nO fg,SeqAt.RcNeAt.none_tuple nO fg⟩
   |lst h2 k2=>cases r1;cases r2;obtain⟨gu,zD,t2,z2⟩:=I.list h2;simp only[bA];exact⟨SeqAt.RcAt.none_list t2.isList fg,SeqAt.EqAt.none_list t2.isList fg,SeqAt.RcNeAt.none_list t2.isList fg⟩
   |ty=>simp[aq]at p2
   |dk=>simp[aq]at p2
   |dt=>simp[aq]at p2
   |non=>exact bX (X:=X) (H:=H) (by simp[aq]) (by simp[aq]) .non .non r1 r2
   |bl x=>exact bX (X:=X) (H:=H) (by simp[aq]) (by simp[aq]) .non (.bl x) r1 r2
   |int x=>exact bX (X:=X) (H:=H) (by simp[aq]) (by simp[aq]) .non (.int x) r1 r2
   |str x=>exact bX (X:=X) (H:=H) (by simp[aq]) (by simp[aq]) .non (.str x) r1 r2
  |bl y=>
   cases i2 with
   |tup h2 k2=>cases r1;cases r2;obtain⟨gu,zD,t2,z2⟩:=I.tuple h2;have nO:s.heap.IsTuple _ gu.toArray:=t2;simp only[bA];exact⟨SeqAt.RcAt.bool_tuple _ nO fg,SeqAt.EqAt.bool_tuple _ nO fg,SeqAt.RcNeAt.bool_tuple _ nO fg⟩
   |lst h2 k2=>cases r1;cases r2;obtain⟨gu,zD,t2,z2⟩:=I.list h2;simp only[bA];exact⟨SeqAt.RcAt.bool_list _ t2.isList fg,SeqAt.EqAt.bool_list _ t2.isList fg,SeqAt.RcNeAt.bool_list _ t2.isList fg⟩
   |ty=>simp[aq]at p2
   |dk=>simp[aq]at p2
   |dt=>simp[aq]at p2
   |non=>exact bX (X:=X) (H:=H) (by simp[aq]) (by simp[aq]) (.bl y) .non r1 r2
   |bl x=>exact bX (X:=X) (H:=H) (by simp[aq]) (by simp[aq]) (.bl y) (.bl x) r1 r2
   |int x=>exact bX (X:=X) (H:=H) (by simp[aq]) (by simp[aq]) (.bl y) (.int x) r1 r2
   |str x=>exact bX (X:=X) (H:=H) (by simp[aq]) (by simp[aq]) (.bl y) (.str x) r1 r2
  |int y=>
   cases i2 with
   |tup h2 k2=>obtain⟨t,rfl⟩:=r1;cases r2;obtain⟨gu,zD,t2,z2⟩:=I.tuple h2;have nO:s.heap.IsTuple _ gu.toArray:=t2;simp only[bA];exact⟨SeqAt.RcAt.int_tuple _ _ nO fg,SeqAt.EqAt.int_tuple _ _ nO fg,SeqAt.RcNeAt.int_tuple _ _ nO fg⟩
   |lst h2 k2=>obtain⟨t,rfl⟩:=r1;cases r2;obtain⟨gu,zD,t2,z2⟩:=I.list h2;simp only[bA];exact⟨SeqAt.RcAt.int_list _ _ t2.isList fg,SeqAt.EqAt.int_list _ _ t2.isList fg,SeqAt.RcNeAt.int_list _ _ t2.isList fg⟩
   |ty=>simp[aq]at p2
   |dk=>simp[aq]at p2
   |dt=>simp[aq]at p2
   |non=>exact bX (X:=X) (H:=H) (by simp[aq]) (by simp[aq]) (.int y) .non r1 r2
   |bl x=>exact bX (X:=X) (H:=H) (by simp[aq]) (by simp[aq]) (.int y) (.bl x) r1 r2
   |int x=>exact bX (X:=X) (H:=H) (by simp[aq]) (by simp[aq]) (.int y) (.int x) r1 r2
   |str x=>exact bX (X:=X) (H:=H) (by simp[aq]) (by simp[aq]) (.int y) (.str x) r1 r2
  |str y=>
   cases i2 with
   |tup h2 k2=>obtain⟨t,rfl⟩:=r1;cases r2;obtain⟨gu,zD,t2,z2⟩:=I.tuple h2;have nO:s.heap.IsTuple _ gu.toArray:=t2;simp only[bA];exact⟨SeqAt.RcAt.str_tuple _ _ nO fg,SeqAt.EqAt.str_tuple _ _ nO fg,SeqAt.RcNeAt.str_tuple _ _ nO fg⟩
   |lst h2 k2=>obtain⟨t,rfl⟩:=r1;cases r2;obtain⟨gu,zD,t2,z2⟩:=I.list h2;simp only[bA];exact⟨SeqAt.RcAt.str_list _ _ t2.isList fg,SeqAt.EqAt.str_list _ _ t2.isList fg,SeqAt.RcNeAt.str_list _ _ t2.isList fg⟩
   |ty=>simp[aq]at p2
   |dk=>simp[aq]at p2
   |dt=>simp[aq]at p2
   |non=>exact bX (X:=X) (H:=H) (by simp[aq]) (by simp[aq]) (.str y) .non r1 r2
   |bl x=>exact bX (X:=X) (H:=H) (by simp[aq]) (by simp[aq]) (.str y) (.bl x) r1 r2
   |int x=>exact bX (X:=X) (H:=H) (by simp[aq]) (by simp[aq]) (.str y) (.int x) r1 r2
   |str x=>exact bX (X:=X) (H:=H) (by simp[aq]) (by simp[aq]) (.str y) (.str x) r1 r2
@[simp] def eB:D->D->OB:=λx y=>if aq 40 x=true/\aq 40 y=true then some (.bl (bA x y),false)else none
@[simp] def Af:D->D->OB:=λx y=>if aq 40 x=true/\aq 40 y=true then some (.bl (!bA x y),false)else none
theorem cM (hu:X.A.units+40<cLine):dr X (compareOp .Eq) (rD X.K eB):=by
 intro ae s σ H x y v u Q I rx ry q;obtain⟨B,dx,dy,d,b,sB,ix,iy,e,q⟩:=q;unfold eB at e;split at e
 ·rename_i hp;cases e
  exact(KH I 40 hu hp.1 hp.2 (ix.mono sB) (iy.mono sB) rx ry).1 _ _ _ _ ⟨.bl _,H,I,rfl,q.one sB (.bl _)⟩
 ·cases e
theorem EN (hu:X.A.units+40<cLine):dr X (compareOp .NotEq) (rD X.K Af):=by
 intro ae s σ H x y v u Q I rx ry q;obtain⟨B,dx,dy,d,b,sB,ix,iy,e,q⟩:=q;unfold Af at e;split at e
 ·rename_i hp;cases e
  exact(KH I 40 hu hp.1 hp.2 (ix.mono sB) (iy.mono sB) rx ry).2.2 _ _ _ _ ⟨.bl _,H,I,rfl,q.one sB (.bl _)⟩
 ·cases e
end
section
variable {X:Cx}{a b e:Expr}{pos:Pos}
theorem Bh {K:Frag}{H:Hp}{vs:List V}{ds:List D}{i:Int}{d:D}(h:IsL K H vs ds)(e:nU ds i=some d):∃v,nU vs i=some v/\Is K H v d:=by
 unfold nU at e ⊢;rw[h.length];cases q:CG ds.length i with
 |none=>rw[q]at e;cases e
 |some j=>rw[q]at e;exact h.get e
@[simp] def b7:D->D->OB
 |.lst ds,.int i=>(nU ds i).map λd=>(d,false)
 |.tup ds,.int i=>(nU ds i).map λd=>(d,false)
 |.str z,.int i=>if z.length<=sizeLine then (nU z.cps.toList i).map λc=>(.str ⟨#[c]⟩,false)else none
 |_,_=>none
theorem SO:Hd X (rD X.K b7):=by
 intro value slice ae s σ H x y v u Q I rx ry q hs;obtain⟨B,dx,dy,d,b,sB,ix,iy,e,q⟩:=q;cases ix<;>try (cases e;done)
 all_goals (cases iy<;>try (cases e;done))
 ·simp only[b7]at e;split at e
  ·rename_i hz;obtain⟨c,e1,e2⟩:=oY e;cases e2
   exact zP value slice ae s σ H _ _ v u Q I rx ry ⟨_,_,c,rfl,rfl,hz,e1,q.one sB (.str _)⟩ hs
  ·cases e
 ·rename_i h hl i;simp only[b7]at e;obtain⟨c,e1,e2⟩:=oY e;cases e2
  obtain⟨w,h1,h2⟩:=Bh hl e1;exact zO value slice ae s σ H _ _ v u Q I rx ry ⟨_,_,_,w,rfl,rfl,be sB h,h1,q.one sB h2⟩ hs
 ·rename_i h hl i;simp only[b7]at e;obtain⟨c,e1,e2⟩:=oY e;cases e2
  obtain⟨w,h1,h2⟩:=Bh hl e1;exact HM value slice ae s σ H _ _ v u Q I rx ry ⟨_,_,_,w,rfl,rfl,sB.seq h,h1,q.one sB h2⟩ hs
theorem aM (ha:JE X a fa)(hb:JE X b fb)(hs:uB b:=by intro _ _;rfl):JE X (.Subscript a b pos) (f2 b7 fa fb):=PE.to (Ko SO ha hb hs) λ_ _ _ h=>HQ h
abbrev FO:=Env->Option (Option Int)
def WC (K:Frag)(f:FO):TO:=λσ H Q=>∃(B:Hp)(ρ:Env)(o:Option Int),aU B H/\fE K B σ ρ/\f ρ=some o/\∀H',aU H H'->Q o H'
abbrev JO (X:Cx)(e:Option Expr)(f:FO):Prop:=PO X e (WC X.K f)
@[simp] noncomputable def EO:FO:=λ_=>some none
@[simp] noncomputable def Bi (f:FE):FO:=λρ=>match f ρ with|some (.int i,_)=>some (some i)|_=>none
theorem Il:JO X none EO:=λae s σ H Q I h=>HH ae s σ H Q I (by
 obtain⟨B,ρ,o,sB,r,e,q⟩:=h;cases e
 exact q H (.refl H))
theorem Im (h:JE X e f):JO X (some e) (Bi f):=λae s σ H Q I q=>HI h ae s σ H Q I (by
 obtain⟨B,ρ,o,sB,r,e,q⟩:=q;unfold Bi at e;split at e
 ·rename_i i b' ef;cases e
  refine⟨B,ρ,_,_,sB,r,ef,λv H1 N1 x1 i1 _=>?_⟩;cases i1
  exact⟨i,rfl,q H1 x1.hh⟩
 ·cases e)
def se (ds:List D)(lo hi:Option Int):List D:=(ds.drop (HT.dX ds.length 0 lo)).take (HT.dX ds.length ds.length hi - HT.dX ds.length 0 lo)
theorem vi {K:Frag}{H:Hp}{vs:List V}{ds:List D}{lo hi:Option Int}(h:IsL K H vs ds):IsL K H (rX vs lo hi) (se ds lo hi):=by
 unfold rX se;rw[h.length];exact(h.drop _).take _
@[simp] def WD (fa:FE)(fl fh:FO):FE:=λρ=>(fa ρ).bind λx=>(fl ρ).bind λl=>(fh ρ).bind λh=>match x.1 with
 |.lst ds=>some (.lst (se ds l h),true)
 |.tup ds=>if HT.dX ds.length 0 l=0/\HT.dX ds.length ds.length h=ds.length then none else some (.tup (se ds l h),false)
 |_=>none
theorem bQ.to (h:bQ X f r)(k:∀xs H Q,r' xs H Q->r xs H Q):bQ X f r':=λae s σ H xs us Q I rs q=>h ae s σ H xs us Q I rs (k xs H Q q)
variable {es:List Expr}{x:Str}{p:Pos}{id T:String}
theorem bR (hc:bQ X (.builtin id) (CO X.K f))(hm:X.mg x=none)(hv:bootBuiltins x=some (.builtin id))(ha:JA X (e::es) fa)(hg:Gl X x:=by rfl)(hn:x ≠ "__name__":=by decide)(sx:(x == ("__debug__" : Str))=false:=by decide)
  (he:starEach (e::es) X.env=(false,eval e X.env)::starEach es X.env:=by rfl) (ls:(backTo pos (starEach es X.env)).any (·.1)=false:=by rfl):JE X (.Call (.Name x p) (e::es) [] pos) (fA f fa):=PE.to (xc hc hg hm hv ha hn sx he ls) λ_ _ _ h=>HR h
theorem kB (hc:bQ X (.type T) (CO X.K f))(hm:X.mg x=none)(hv:bootBuiltins x=some (.type T))(ha:JA X (e::es) fa)(hg:Gl X x:=by rfl)(hn:x ≠ "__name__":=by decide)(sx:(x == ("__debug__" : Str))=false:=by decide)
  (he:starEach (e::es) X.env=(false,eval e X.env)::starEach es X.env:=by rfl) (ls:(backTo pos (starEach es X.env)).any (·.1)=false:=by rfl):JE X (.Call (.Name x p) (e::es) [] pos) (fA f fa):=PE.to (sL hc hg hm hv ha hn sx he ls) λ_ _ _ h=>HR h
@[simp] noncomputable def gT:List D->OB
 |[.lst ds]=>some (.int ds.length,false)
 |[.tup ds]=>some (.int ds.length,false)
 |[.str z]=>if z.length<=sizeLine then some (.int z.length,false)else none
 |_=>none
theorem jI:bQ X (.builtin "len") (CO X.K gT):=by
 refine bQ.to (bQ.or uF uG) λxs H Q q=>?_;obtain⟨B,ds,d,b,sB,i,e,q⟩:=q;cases i with
 |nil=>simp[gT]at e
 |cons i1 i2=>
  cases i2 with
  |cons _ _=>cases i1<;>simp[gT]at e
  |nil=>
   cases i1<;>try (simp[gT]at e;done)
   ·simp only[gT]at e;split at e
    ·rename_i hz;cases e
     exact .inr ⟨_,rfl,hz,q.one sB (.int _)⟩
    ·cases e
   ·rename_i h hl;simp only[gT]at e;cases e
    refine .inl ⟨_,_,rfl,.inr (be sB h),?_⟩;rw[hl.length];exact q.one sB (.int _)
   ·rename_i h hl;simp only[gT]at e;cases e
    refine .inl ⟨_,_,rfl,.inl (sB.seq h),?_⟩;rw[hl.length];exact q.one sB (.int _)
end
theorem CT (hr:eN k A):A.units+40<cLine:=by have:=hr.un;omega
section
variable {X:Cx}{a b e:Expr}{pos:Pos}{x:Str}{p:Pos}
theorem xI (h:∃u v,X.mg x=some u/\aX v u/\∀B,Is X.K B v d)(hg:Gl X x:=by rfl)(hd:(x == ("__debug__" : Str))=false:=by decide):JE X (.Name x pos) (fC d):=by
 obtain⟨u,v,hm,r,i⟩:=h;exact Ic hg hm r i hd
@[simp] noncomputable def Bj:D->D->OB
 |.int i,.int j=>some (.int (i+j),false)
 |.str i,.str j=>if i.length+j.length<=sizeLine then some (.str (i++j),false)else none
 |_,_=>none
theorem Io:dr X (binaryOp .Add) (rD X.K Bj):=by
 refine iR (r:=rD X.K (Ee Mw Ih)) (mU PB My) λx y H Q q=>?_;obtain⟨B,dx,dy,d,b,sB,ix,iy,e,q⟩:=q;refine⟨B,dx,dy,d,b,sB,ix,iy,?_,q⟩;cases dx<;>try (cases e;done)
 all_goals (cases dy<;>try (cases e;done))
 all_goals (simp[Bj]at e;simp[Ee,Mw,Ih,z8,Ot,e])
@[simp] def g7:D->D->OB:=Mx
theorem da:dr X (binaryOp .Mult) (rD X.K g7):=PD
@[simp] def MA:D->D->OB:=UW
theorem Bk:dr X (compareOp .Lt) (rD X.K MA):=SK
@[simp] noncomputable def sU:D->D->OB
 |.int i,.int j=>some (.bl (decide (i<=j)),false)
 |.str i,.str j=>some (.bl (!decide (j.cps.toList<i.cps.toList)),false)
 |_,_=>none
theorem la:dr X (compareOp .LtE) (rD X.K sU):=by
 refine iR (r:=rD X.K (Ee SI R9)) (mU SM PH) λx y H Q q=>?_;obtain⟨B,dx,dy,d,b,sB,ix,iy,e,q⟩:=q;refine⟨B,dx,dy,d,b,sB,ix,iy,?_,q⟩;cases dx<;>try (cases e;done)
 all_goals (cases dy<;>try (cases e;done))
 all_goals (simp[sU]at e;simp[Ee,SI,R9,z8,Ot,e])
@[simp] noncomputable def xJ:D->OB
 |.int i=>some (.int (-i),false)
 |_=>none
theorem KI:Pj X (unaryOp .USub) (SG X.K xJ):=by
 intro ae s σ H x v Q I rx q;obtain⟨B,dx,d,b,sB,ix,e,q⟩:=q;cases ix<;>try (simp[xJ]at e;done)
 simp only[xJ]at e;cases e
 exact Mc ae s σ H _ v Q I rx ⟨_,rfl,q.one sB (.int _)⟩
@[simp] noncomputable def CU:D->D->Option Bool
 |.non,.non=>some true
 |_,.non=>some false
 |.bl a,.bl b=>some (a == b)
 |_,.bl _=>some false
 |_,_=>none
@[simp] def Ef:D->D->OB:=λx y=>(CU x y).map λb=>(.bl b,false)
@[simp] def lz:D->D->OB:=λx y=>(CU x y).map λb=>(.bl (!b),false)
theorem Bl {K:Frag}{B:Hp}{x y:V}{v u:Value}{dx dy:D}{k:Bool}(ix:Is K B x dx)(iy:Is K B y dy)(rx:aX x v)(ry:aX y u)(e:CU dx dy=some k):plainIs v u=true/\(v == u)=k:=by
 cases iy<;>(first|(cases dx<;>simp[CU]at e;done)|skip)
 all_goals (cases ix)
 all_goals (first|(obtain⟨t,rfl⟩:=rx)|cases rx)
 all_goals (cases ry)
 all_goals (simp only[CU,Option.some.injEq]at e;subst e)
 all_goals (first|exact⟨rfl,rfl⟩|skip)
 all_goals (rename_i c d;cases c<;>cases d<;>exact⟨rfl,rfl⟩)
theorem EQ:dr X (compareOp .Is) (rD X.K Ef):=by
 intro ae s σ H x y v u Q I rx ry q;obtain⟨B,dx,dy,d,b,sB,ix,iy,e,q⟩:=q;obtain⟨k,ek,e⟩:=oY e;cases e
 obtain⟨h1,h2⟩:=Bl ix iy rx ry ek;refine wpAny_is_plain h1 ⟨.bl k,H,I,by rw[h2];rfl,q.one sB (.bl _)⟩
theorem vj:dr X (compareOp .IsNot) (rD X.K lz):=by
 intro ae s σ H x y v u Q I rx ry q;obtain⟨B,dx,dy,d,b,sB,ix,iy,e,q⟩:=q;obtain⟨k,ek,e⟩:=oY e;cases e
 obtain⟨h1,h2⟩:=Bl ix iy rx ry ek;refine wpAny_isNot_plain h1 ⟨.bl (!k),H,I,by rw[h2];rfl,q.one sB (.bl _)⟩
@[simp] noncomputable def gf:D->Bool
 |.non=>true|.bl _=>true|.int _=>true|.str _=>true
 |_=>false
noncomputable def Hg (x:D)(ds:List D):Bool:=ds.any λy=>bA y x
@[simp] noncomputable def gU:D->Option (List D)
 |.lst ds=>some ds
 |.tup ds=>some ds
 |_=>none
@[simp] def z9:D->D->OB:=λx y=>(gU y).bind λds=>if gf x=true/\ds.all gf=true then some (.bl (Hg x ds),false)else none
@[simp] def gV:D->D->OB:=λx y=>(gU y).bind λds=>if gf x=true/\ds.all gf=true then some (.bl (!Hg x ds),false)else none
theorem pE {K:Frag}{B:Hp}{v:V}{d:D}(i:Is K B v d)(h:gf d=true):kZ v=true:=by
 cases i<;>first|rfl|(simp[gf]at h)
theorem SQ {K:Frag}{B:Hp}{v w:V}{d e:D}(i:Is K B v d)(j:Is K B w e)(h:gf d=true)(h':gf e=true):He v w=bA d e:=by
 cases i<;>(first|(simp[gf]at h;done)|skip)
 all_goals (cases j<;>(first|(simp[gf]at h';done)|skip))
 all_goals (simp only[He,bA,Bool.beq_eq_decide_eq])
theorem xK {K:Frag}{B:Hp}:∀ {vs:List V}{ds:List D},IsL K B vs ds->ds.all gf=true->vs.all kZ=true
 |_,_,.nil,_=>rfl
 |_,_,.cons i t,h=>by
  rw[List.all_cons,vC]at h;rw[List.all_cons,pE i h.1,xK t h.2];rfl
theorem ER {K:Frag}{B:Hp}{v:V}{d:D}(j:Is K B v d)(hd:gf d=true):∀ {vs:List V}{ds:List D},IsL K B vs ds->ds.all gf=true->R8 v vs=Hg d ds
 |_,_,.nil,_=>rfl
 |_,_,.cons i t,h=>by
  rw[List.all_cons,vC]at h;have e:=ER j hd t h.2;unfold R8 Hg at *;rw[List.any_cons,List.any_cons,e,SQ i j h.1 hd]
theorem xL:dr X (compareOp .In) (rD X.K z9):=by
 refine iR CH λx y H Q q=>?_;obtain⟨B,dx,dy,d,b,sB,ix,iy,e,q⟩:=q;obtain⟨ds,es,e⟩:=oX e;split at e
 ·rename_i hf;cases e
  cases iy<;>simp only[gU]at es<;>try (cases es;done)
  ·rename_i h hl;cases es
   exact⟨_,_,rfl,.inr (be sB h),pE ix hf.1,xK hl hf.2,by rw[if_neg (by decide),ER ix hf.1 hl hf.2];exact q.one sB (.bl _)⟩
  ·rename_i h hl;cases es
   exact⟨_,_,rfl,.inl (sB.seq h),pE ix hf.1,xK hl hf.2,by rw[if_neg (by decide),ER ix hf.1 hl hf.2];exact q.one sB (.bl _)⟩
 ·cases e
theorem pF:dr X (compareOp .NotIn) (rD X.K gV):=by
 refine iR uE λx y H Q q=>?_;obtain⟨B,dx,dy,d,b,sB,ix,iy,e,q⟩:=q;obtain⟨ds,es,e⟩:=oX e;split at e
 ·rename_i hf;cases e
  cases iy<;>simp only[gU]at es<;>try (cases es;done)
  ·rename_i h hl;cases es
   exact⟨_,_,rfl,.inr (be sB h),pE ix hf.1,xK hl hf.2,by rw[if_pos rfl,ER ix hf.1 hl hf.2];exact q.one sB (.bl _)⟩
  ·rename_i h hl;cases es
   exact⟨_,_,rfl,.inl (sB.seq h),pE ix hf.1,xK hl hf.2,by rw[if_pos rfl,ER ix hf.1 hl hf.2];exact q.one sB (.bl _)⟩
 ·cases e
theorem jJ:bootBuiltins "len" = some (.builtin "len"):=PySem.boot_len
theorem PL:bootBuiltins "max" = some (.builtin "max"):=by decide +kernel
theorem PM:bootBuiltins "min" = some (.builtin "min"):=by decide +kernel
theorem PN:bootBuiltins "all" = some (.builtin "all"):=by decide +kernel
theorem PP:bootBuiltins "int" = some (.type "int"):=by decide +kernel
theorem MB:bootBuiltins "list" = some (.type "list"):=by decide +kernel
theorem Ip:bootBuiltins "tuple" = some (.type "tuple"):=by decide +kernel
@[simp] noncomputable def Iq:List D->OB
 |[.int i,.int j]=>some (.int (if j > i then j else i),false)
 |_=>none
@[simp] noncomputable def Ir:List D->OB
 |[.int i,.int j]=>some (.int (if j<i then j else i),false)
 |_=>none
theorem xM {K:Frag}{B:Hp}{xs:List V}{i j:Int}(h:IsL K B xs [.int i,.int j]):xs=[.int i,.int j]:=by
 cases h with
 |cons h1 h2=>cases h1;cases h2 with|cons h3 h4=>cases h3;cases h4;rfl
theorem PQ (hc:X.calm=true:=by rfl):bQ X (.builtin "max") (CO X.K Iq):=by
 refine bQ.to (CA hc) λxs H Q q=>?_;obtain⟨B,ds,d,b,sB,i,e,q⟩:=q;match ds,e with
 |[.int i',.int j'],e=>simp only[Iq]at e;cases e;exact⟨i',j',xM i,q.one sB (.int _)⟩
theorem PR (hc:X.calm=true:=by rfl):bQ X (.builtin "min") (CO X.K Ir):=by
 refine bQ.to (CB hc) λxs H Q q=>?_;obtain⟨B,ds,d,b,sB,i,e,q⟩:=q;match ds,e with
 |[.int i',.int j'],e=>simp only[Ir]at e;cases e;exact⟨i',j',xM i,q.one sB (.int _)⟩
@[simp] noncomputable def MC:D->String
 |.non=>"NoneType" | .bl _=>"bool" | .int _=>"int" | .str _=>"str" | .ty _=>"type" | .tup _=>"tuple" | .lst _=>"list" | .dk _ _=>"dict" | .dt _ _=>"dict"
@[simp] noncomputable def PU:D->Bool
 |.ty _=>true
 |_=>false
@[simp] noncomputable def Iu (t n:String):OB :=
 if n = "int" then some (.bl (t == "int" || t == "bool"),false)else if n = "bool" then some (.bl (t == "bool"),false)else if n = "str" then some (.bl (t == "str"),false)
 else if n = "list" then some (.bl (t == "list"),false)else if n = "tuple" then some (.bl (t == "tuple"),false)else none
@[simp] def KJ:List D->OB
 |[d,.ty n]=>if PU d=true then none else Iu (MC d) n
 |_=>none
@[simp] noncomputable def UY:D->OB
 |.int i=>some (.int (Builtin.Int.intBits i),false)
 |_=>none
@[simp] def ES (f:FE):FA:=λρ=>(f ρ).bind λx=>gU x.1
theorem Bm (h:JE X e f):JI X tg e (ES f):=by
 intro ae s σ H R I q;obtain⟨B,ρ,ds,sB,r,e',q⟩:=q;obtain⟨x,ex,es⟩:=oX e';obtain⟨xd,xb⟩:=x;cases xd<;>simp only[gU]at es<;>try (cases es;done)
 ·cases es
  refine LS h ae s σ H R I ⟨B,ρ,_,_,sB,r,ex,λv H1 N1 x1 i1 _=>?_⟩;cases i1 with
  |@tup a vs _ ht hl=>
   refine⟨a,rfl,⟨vs,be x1.nh ht⟩,q _ H1 N1 x1 λi H2 s2=>⟨λd ed=>?_,λbF=>⟨vs,be s2 ht,by rw[hl.length];exact bF⟩⟩⟩;obtain⟨v,ev,iv⟩:=hl.get ed;refine⟨⟨vs,v,be s2 ht,ev⟩,λy H3 hy=>?_⟩;obtain⟨rfl,hy⟩:=hy;have:=hy vs (be s2 ht);rw[ev]at this;cases this;exact⟨N1,.refl s2,iv⟩
 ·cases es
  refine Hx h ae s σ H R I ⟨B,ρ,_,_,sB,r,ex,λv H1 N1 x1 i1 _=>?_⟩;cases i1 with
  |@lst a vs _ ht hl=>
   refine⟨a,rfl,⟨vs,x1.nh.seq ht⟩,q _ H1 N1 x1 λi H2 s2=>⟨λd ed=>?_,λbF=>⟨vs,s2.seq ht,by rw[hl.length];exact bF⟩⟩⟩;obtain⟨v,ev,iv⟩:=hl.get ed;refine⟨⟨vs,v,s2.seq ht,ev⟩,λy H3 hy=>?_⟩;obtain⟨rfl,hy⟩:=hy;have:=hy vs (s2.seq ht);rw[ev]at this;cases this;exact⟨N1,.refl s2,iv⟩
noncomputable def eG (lo:Int)(n:Nat):List D:=(List.range n).map λ(k:Nat)=>.int (lo+(k:Int))
theorem xN {K:Frag}{B:Hp}(lo:Int)(n:Nat):oH K (Pe lo n) B (eG lo n):=by
 intro i H s;unfold eG;refine⟨λd ed=>?_,λhl=>by rw[vI,List.length_range]at hl;exact hl⟩;rw[vA]at ed;obtain⟨k,ek,ed⟩:=oY ed;have hk:=vV ek;obtain⟨fG,hk⟩:=hk;rw[List.length_range]at fG;rw[List.getElem_range]at hk;subst hk;subst ed;refine⟨fG,λx H' hy=>?_⟩;obtain⟨rfl,rfl⟩:=hy;exact⟨B,.refl s,.int _⟩
@[simp] def gW (f:FE):FA:=λρ=>match f ρ with
 |some (.int j,_)=>if -1000<=j/\j<=1000 then some (eG 0 j.toNat)else none
 |_=>none
theorem mh (hm:X.mg "range" = none)(h:JE X a f)(hg:Gl X "range":=by rfl)(hs:starEach [a] X.env=[(false,eval a X.env)]:=by rfl):PI X tg (.Call (.Name "range" p) [a] [] pos) (P8 X.K (gW f)):=by
 refine PI.to (C6 hg hm (ah h ao hs) hs) λσ H R q=>?_;obtain⟨B,ρ,ds,sB,r,e',q⟩:=q;unfold gW at e';split at e'
 ·rename_i j b' ef;split at e'
  ·rename_i hj;cases e'
   refine⟨B,ρ,[.int j],sB,r,by simp[af,aj,ef],λvs H1 N1 x1 i1=>?_⟩;cases i1 with
   |cons i1 i2=>
    cases i1;cases i2
    exact⟨j,rfl,by omega,by omega,q _ H1 N1 x1 λ_=>xN 0 j.toNat⟩
  ·cases e'
 ·cases e'
theorem ET (hm:X.mg "range" = none)(h:JE X a f)(hg:Gl X "range":=by rfl)(hs:starEach [a] X.env=[(false,eval a X.env)]:=by rfl):JI X tg (.Call (.Name "range" p) [a] [] pos) (gW f) :=
 PI.to (mh hm h hg hs) λσ H R ⟨B,ρ,ds,sB,r,e',q⟩=>⟨B,ρ,ds,sB,r,e',λJ H' N x h=>q J H' N x (h _)⟩
end
def eA (K:Frag)(x:Str)(st:Stmt):Prop:=∃(f:Addr)(fd:FuncData),NE K x x st f fd/\nsIn K mainGlobals x=some (some (.ref f))
theorem def_mk {K:Frag}{x:Str}{st:Stmt}{f:Addr}{oc:Value}{od an:Option Addr}{oC:Array (Option Value)}{kV doc pm eI ct:Value}(a:nsIn K mainGlobals x=some (some (.ref f)))
  (l:K.lookup f=some ⟨oc,od,.func (fnOf x x (fY st) (cG st) (aP st) .none kV doc pm an eI ct),oC⟩) (c:PySem.W.codeIn K eI x=true) (k:PySem.W.keepIn K (.ref f)=true):eA K x st:=⟨f,_,Mk l c k,a⟩
section
variable {P:Program}{w:World}{K:Frag}{mg:Str->Option Value}{base:Heap}
theorem eA.fn {x:Str}{st:Stmt}{N ps:List Str}{k:Nat}{g:FS}{h:Heap}(F:eA K x st)(X:K.In h)(G:h.Ns mainGlobals mg)(S:FnScope N ps (aP st))
  (JY:∀(kV doc pm:Value)(an:Option Addr)(eI ct:Value)(us:List Value),us.length=ps.length->bindArgs (fnOf x x (fY st) (cG st) (aP st) .none kV doc pm an eI ct) ⟨us,[]⟩=pure (ps.zip us))
  (hb:∀(f:Addr)(eI:Value)(A:Around)(outer:List PySem.Env)(s:Shared)(H:Hp)(E:XK),eN k (A.deeper (envOfC x (aP st) s.heap.objs.size f eI))->wO (oF z7 P w K mg base N x (aP st) f eI A outer s H E).nox (cG st) g):
  Fn P w K mg base (k+1) x (aN g ps.length (N.length - ps.length)):=by
 obtain⟨f,fd,F1,a⟩:=F;exact⟨f,fd,ps,PJ F1 S (hb f),mg_of X G a,F1.kp,F1.binds JY⟩
end
def PV (H:Hp):Prop:=∀b,H b=none∨(∃o xs,H b=some (.frz o (.lst xs)))∨∃q,H b=some (.tbl q)
noncomputable def pG (jP:List (Addr×Str))(G:Hp):Hp:=λb=>match jP.lookup b with|some q=>some (.tbl q)|none=>G b
theorem gg (e:jP.lookup b=some q):pG jP G b=some (.tbl q):=by unfold pG;rw[e]
theorem jb (e:jP.lookup b=none):pG jP G b=G b:=by unfold pG;rw[e]
theorem CV {P:Program}{w:World}{K:Frag}{mg mb:Str->Option Value}{k:Nat}{fa a:Addr}{fd:FuncData}{x:Str}{sp:Sp}{s₁:Shared}{vs:List Value}{ns:List Int}(jP:List (Addr×Str))
  (ht:∀b q,jP.lookup b=some q->s₁.heap.get? b=some (PySem.W.tabObj #[])/\isCodeTable s₁.heap b) (XA:PySem.W.noTabs K=true)
  (KX:K.In s₁.heap) (OC:s₁.heap.Ns mainGlobals mg) (hb:s₁.heap.Ns builtinsNs mb) (XB:∀x:Str,x ≠ "__name__"->mb x=bootBuiltins x) (TL:s₁.heap.NoLimit)
  (XC:∃bm ob,mg "__builtins__" = some (.ref bm)/\bm≠builtinsNs/\s₁.heap.get? bm=some ob/\ob.cls=.type "module"/\ob.dict=some builtinsNs/\ob.data=.plain) (hg:s₁.gens=#[])
  (ha:s₁.heap.get? a=some { cls:=.type "list",data:=.seq vs.toArray }) (hi:IntsAre vs ns) (hl:ns.length<=sizeLine) (hr:eN k callerA)
  (F:∀base:Heap,K.In base->base.Ns mainGlobals mg->sw P w K mg base z7 k fa fd [x] sp) (zq:∀(s:Shared)(u:Value),BindsTo s fd ⟨[u],[]⟩ [(x,u)])
  (O8:∀H:Hp,(∀b q,jP.lookup b=some q->H b=some (.tbl q))->iA K H a (ns.map V.int)->sp [.ref a] H (λv _=>v=.bl true) λ_ _ _=>False):
  codeAny (model P w) callerA (.call (.ref fa) ⟨[.ref a],[]⟩) (λr s'=>r=.ok (.ret (.bool true))/\OldK s₁.heap s'.heap/\s'.os=s₁.os/\AllBare s'.gens) s₁:=by
 have rv:=L2.gL hi;have TM:=hi.length;have QK:∀H:Hp,PV H->(∀b q,jP.lookup b=some q->H b=some (.tbl q))->iA K H a (ns.map V.int)->kR P w H s₁.heap->(∀b q,H b=some (.tbl q)->s₁.heap.get? b=some (PySem.W.tabObj #[])/\isCodeTable s₁.heap b) ->
   (∀b o u,H b=some (.frz o u)->b=a)->(∀b o u,H b=some (.frz o u)->K.lookup b=none) ->
   codeAny (model P w) callerA (.call (.ref fa) ⟨[.ref a],[]⟩) (λr s'=>r=.ok (.ret (.bool true))/\OldK s₁.heap s'.heap/\s'.os=s₁.os/\AllBare s'.gens) s₁:=by
  intro H hO hT hS hok hA hB hK;have JM:∀ {b:Addr}{o:Obj},s₁.heap.get? b=some o->(o.cls≠.none)->(o.cls≠.type "list")->H b=none:=λ{b o} e d d'=>by
   rcases hO b with q|⟨ob,xs,q⟩|⟨u,q⟩
   ·exact q
   ·have e':b=a:=hB b _ _ q;subst e';rw[ha]at e;cases e;exact absurd rfl d'
   ·rw[(hA b u q).1]at e;cases e;exact absurd rfl d
  have XD:∀ {b:Addr}{o:Obj}{es:Array DictEntry}{ep:Nat},s₁.heap.get? b=some o->o.data=.dict es ep->H b=none:=λ{b o es ep} e d=>by
   rcases hO b with q|⟨ob,xs,q⟩|⟨u,q⟩
   ·exact q
   ·have e':b=a:=hB b _ _ q;subst e';rw[ha]at e;cases e;cases d
   ·rw[(hA b u q).1]at e;cases e;cases d
  have RY:∀ {b:Addr}{m:Str->Option Value},s₁.heap.Ns b m->(wT s₁.heap H).Ns b m:=λ{b m} ⟨o,es,ep,e,d,r⟩=>⟨o,es,ep,p7 e (XD e d),d,r⟩;have VA:K.In (wT s₁.heap H):=λb o e=>p7 (KX b o e) (by
   rcases hO b with q|⟨ob,xs,q⟩|⟨u,q⟩
   ·exact q
   ·rw[hK b _ _ q]at e;cases e
   ·have z:=(hA b u q).1;rw[KX b o e]at z;cases z
    have:=uR XA _ (PySem.W.mem_of_lookupK e);simp at this)
  have hM:Mod K mg (wT s₁.heap H):=⟨VA,RY OC,⟨mb,RY hb,XB⟩,let ⟨mc,h1,h2⟩:=TL;⟨mc,RY h1,h2⟩,by
   obtain⟨bm,ob,b1,b2,b3,b4,b5⟩:=XC;exact⟨bm,ob,b1,b2,p7 b3 (JM b3 (by rw[b4];exact λz=>nomatch z) (by rw[b4];intro z;injection z with z;exact absurd z (by decide))),b4,b5⟩⟩
  have e0:Env0 P w K mg (wT s₁.heap H) callerA [] s₁ H:=⟨rfl,hM,λb o e=>Hr e,Nat.le_of_eq (C4 _ _),trivial,λb hb=>absurd (show b∈([]:List Addr)from hb) (by simp),hok,.of_eq hg⟩;refine codeAny_mono ((F _ VA (RY OC)).run callerA [] s₁ H ⟨[.ref a],[]⟩ [.ref a] [.ref a] _ _ hr e0 (zq s₁ (.ref a)) (.cons rfl .nil) (O8 H hT hS)) λr s' h=>?_;cases r with
  |error e=>exact False.elim h
  |ok fl=>
   cases fl with
   |next=>exact False.elim h
   |brk=>exact False.elim h
   |cont=>exact False.elim h
   |ret u=>
    obtain⟨v,H',os,bare,un,QL,r',q⟩:=h;have q':v=.bl true:=q;subst q';obtain rfl:u=Value.bool true:=r';have kp:∀b o,H b=none->s₁.heap.get? b=some o->s'.heap.get? b=some o:=λb o n e=>un.keep b o e n (by intro z;exact absurd (show b∈([]:List Addr)from z) (by simp)) (by simp);refine⟨rfl,⟨λb o e=>?_,λb o e=>un.there b o e (by simp)⟩,os,bare⟩;rcases hO b with z|⟨ob,xs,z⟩|⟨u,z⟩
    ·exact .inl (kp b o z e)
    ·have z2:=un.frzs b ob _ z;obtain⟨e1,_⟩:=hok b _ z;obtain⟨e2,_⟩:=QL b _ z2;rw[e]at e1;cases e1;exact .inl e2
    ·obtain⟨e1,e2⟩:=hA b u z;rw[e]at e1;cases e1;obtain⟨ps,e3,_⟩:=QL b _ (un.tbls b u z);exact .inr (.inl ⟨e2,rfl,#[],ps,rfl,by simpa using e3⟩)
 have NG:∀q,jP.lookup a≠some q:=λq z=>by
  have:=(ht a q z).1;rw[ha]at this;cases this
 have ta:jP.lookup a=none:=by
  cases z:jP.lookup a with
  |none=>rfl
  |some q=>exact absurd z (NG q)
 have Ls:∀(G:Hp) b q,jP.lookup b=some q->ce P w (pG jP G) s₁.heap b (.tbl q):=λG b q z=>⟨#[],(ht b q z).1,trivial,λpos cv c=>by cases c⟩;cases hk:K.lookup a with
 |some o=>
  have e:=KX a o hk;rw[ha]at e;cases e
  refine QK (pG jP λ_=>none) (λb=>?_) (λb q z=>gg z) (.inr ⟨_,vs.toArray,_,hk,rfl,rfl,rfl,by rw[vH,TM];exact hl,by simpa using rv⟩) (λb u z=>?_) (λb q z=>?_) (λb o u z=>?_) λb o u z=>?_
  all_goals cases zt:jP.lookup b with
   |none=>first|exact .inl (jb zt)|(rw[jb zt]at z;cases z)
   |some q'=>first|exact .inr (.inr ⟨q',gg zt⟩)|(rw[gg zt]at z;cases z;done)|(rw[gg zt]at z;cases z;first|exact Ls _ b _ zt|exact ht b _ zt)
 |none=>
  refine QK (pG jP λb=>if b=a then some (.frz { cls:=.type "list",data:=.seq vs.toArray } (.lst (ns.map V.int)))else none) (λb=>?_) (λb q z=>gg z) (.inl (.inr ⟨{ cls:=.type "list",data:=.seq vs.toArray },by rw[jb ta,if_pos rfl]⟩)) (λb u z=>?_) (λb q z=>?_) (λb o u z=>?_) λb o u z=>?_
  all_goals cases zt:jP.lookup b with
   |some q'=>first|exact .inr (.inr ⟨q',gg zt⟩)|(rw[gg zt]at z;cases z;done)|(rw[gg zt]at z;cases z;first|exact Ls _ b _ zt|exact ht b _ zt)
   |none=>
    first
    |rw[jb zt]at z
    |rw[jb zt]
    by_cases hb:b=a
    ·first
     |rw[if_pos hb]at z
     |rw[if_pos hb]
     first
     |exact .inr (.inl ⟨_,_,rfl⟩)
     | (cases z;subst hb;exact⟨ha,by rw[vI];exact hl,vs,_,rv,ha⟩)
     |exact hb
     | (rw[hb];exact hk)
     |cases z
    ·first
     | (rw[if_neg hb]at z;cases z)
     |exact .inl (if_neg hb)
noncomputable def vk (L:List (Str×Option (Addr×Addr))):List (Addr×Str):=L.filterMap λp=>p.2.map λq=>(q.2,pA p.1)
structure p6 (K:Frag)(L:List (Str×Option (Addr×Addr))):Prop where
 names:L=lV.map λx=>(x,PySem.W.tabIn K x)
 apart:((vk L).map (·.1)).Nodup
 none:PySem.W.noTabs K=true
theorem lb {α β:Type}[BEq α][LawfulBEq α]:∀ {l:List (α×β)}{a:α}{b:β},(l.map (·.1)).Nodup->(a,b)∈l->l.lookup a=some b
 | (c,d)::l,a,b,nd,h=>by
  rw[List.lookup_cons];rcases vP h with e|h
  ·cases e;simp
  ·have ne:a≠c:=λz=>(List.nodup_cons.mp nd).1 (by rw[←z];exact uS ⟨(a,b),h,rfl⟩);rw[show(a == c)=false by simpa using ne];exact lb (List.nodup_cons.mp nd).2 h
theorem jX {α β:Type}[BEq α][LawfulBEq α]:∀ {l:List (α×β)}{a:α}{b:β},l.lookup a=some b->(a,b)∈l
 | (c,d)::l,a,b,h=>by
  rw[List.lookup_cons]at h;cases e:a == c with
  |true=>rw[e]at h;cases h;rw[eq_of_beq e];exact mX
  |false=>rw[e]at h;exact mZ _ (jX h)
theorem p6.tb {K:Frag}{L:List (Str×Option (Addr×Addr))}(F:p6 K L){H:Hp}(h:∀b q,(vk L).lookup b=some q->H b=some (.tbl q)):Tb K H:=λx hx c P e=>by
 refine h P (pA x) (lb F.apart ?_);rw[F.names];exact List.mem_filterMap.mpr ⟨(x,PySem.W.tabIn K x),uS ⟨x,hx,rfl⟩,by rw[e];rfl⟩
theorem tab_yes {K:Frag}{x:Str}{f c P:Addr}{oc XE:Value}{od TN:Option Addr}{oC NH:Array (Option Value)}{fd:FuncData}{vs:Array Value}(e1:nsIn K mainGlobals x=some (some (.ref f)))(e2:K.lookup f=some ⟨oc,od,.func fd,oC⟩)(e3:fd.code=.ref c)
  (e4:K.lookup c=some ⟨XE,TN,.fields vs,NH⟩) (e5:vs[11]? = some (.ref P)):PySem.W.tabIn K x=some (c,P):=by unfold PySem.W.tabIn;simp only[e1,e2,e3,e4,e5]
theorem tabs_fit {K:Frag}{t0 t1 t2 t3:Option (Addr×Addr)}(h0:PySem.W.tabIn K "in_order" = t0)(h1:PySem.W.tabIn K "has_seal" = t1)(h2:PySem.W.tabIn K "is_first_death" = t2)(h3:PySem.W.tabIn K "bases_by" = t3)
  (ap:((vk [("in_order",t0),("has_seal",t1),("is_first_death",t2),("bases_by",t3)]).map (·.1)).Nodup) (nt:PySem.W.noTabs K=true):p6 K [("in_order",t0),("has_seal",t1),("is_first_death",t2),("bases_by",t3)] :=
 ⟨by subst h0;subst h1;subst h2;subst h3;rfl,ap,nt⟩
theorem walkD {l:PySem.W.OpenLaw}{q:Program}{Cw:List Str}{XP:(Str->Option Value)->Heap->Prop}{YP:World->Heap->Prop}{d:DefRec}{K:Params->Frag}{k:Nat}{x:Str}{f:List D->OB}{L:List (Str×Option (Addr×Addr))}(hn:l.most=some 63)(Q6:d.params.defaults=[])(hr:eN k callerA)
  (hY:∀(w:World)(h:Heap),YP w h->(K w.params).In h) (hT:∀w:World,p6 (K w.params) L) (hD:(L.all λp=>p.2.isNone || ((recsOf q).find? λe=>e.name == p.1).isSome)=true)
  (F:∀(w:World)(mg:Str->Option Value)(fa:Addr)(h:Heap),(K w.params).In h->h.Ns mainGlobals mg->mg d.name=some (.ref fa) ->
   ∃fd:FuncData,(∀(s:Shared)(u:Value),BindsTo s fd ⟨[u],[]⟩ [(x,u)])/\∀base:Heap,(K w.params).In base->base.Ns mainGlobals mg->sw l.prog w (K w.params) mg base z7 k fa fd [x] (Ik (K w.params) f))
  (ht:∀ns:List Int,ns.length<=63->∃b,f [.lst (ns.map .int)]=some (.bl true,b)):PySem.W.WalkO q Cw XP YP l.row.toRowW d [] (λf vs=>PySem.call f vs):=by
 refine Att.xf hn Q6 λw s₀ s₁ mg mb fa o pm cd doc a vs ns G Y ho hd jv hmg ND GN bF hg=>?_;have KX:=hY w _ Y;obtain⟨fd,hb,hF⟩:=F w mg fa _ KX G.T.g hmg;refine CV (vk L) (λb u e=>?_) (hT w).none KX G.T.g G.T.b G.T.builtins G.T.nolimit G.T.bmain hg ND GN (vR bF (by decide)) hr hF hb λH hH hS=>?_
 ·obtain⟨p,hp,e2⟩:=List.mem_filterMap.mp (jX e);obtain⟨⟨c,P⟩,e3,e4⟩:=oY e2;cases e4
  have TQ:=uR hD p hp;rw[e3]at TQ;rw[Option.isNone_some,Bool.false_or]at TQ;obtain⟨r,XF⟩:=uU TQ;have QM:PySem.W.tabIn (K w.params) p.1=some (c,P):=by
   rw[(hT w).names]at hp;obtain⟨y,_,rfl⟩:=vO hp;exact e3
  obtain⟨h1,h2⟩:=PySem.W.tab_of G.T KX XF QM;exact⟨h2,(h1.tab h2).isCodeTable⟩
 ·obtain⟨b,e⟩:=ht ns bF;exact⟨H,_,_,b,⟨.refl H,(hT w).tb hH⟩,.cons (.lst hS (.flat rfl)) .nil,e,λv H' N x' i' _=>by cases i';rfl⟩
theorem eA.law {P:Program}{w:World}{K:Frag}{mg:Str->Option Value}{x y:Str}{st:Stmt}{N:List Str}{k:Nat}{g:FS}{h:Heap}{fa:Addr}(F:eA K x st)(X:K.In h)(G:h.Ns mainGlobals mg)(TR:mg x=some (.ref fa))(S:FnScope N [y] (aP st))
  (JY:∀(kV doc pm:Value)(an:Option Addr)(eI ct:Value)(u:Value),bindArgs (fnOf x x (fY st) (cG st) (aP st) .none kV doc pm an eI ct) ⟨[u],[]⟩=pure [(y,u)])
  (hb:∀(base:Heap),K.In base->base.Ns mainGlobals mg->∀(f:Addr)(eI:Value)(A:Around)(outer:List PySem.Env)(s:Shared)(H:Hp)(E:XK),eN k (A.deeper (envOfC x (aP st) s.heap.objs.size f eI))->wO (oF z7 P w K mg base N x (aP st) f eI A outer s H E).nox (cG st) g):
  ∃fd:FuncData,(∀(s:Shared)(u:Value),BindsTo s fd ⟨[u],[]⟩ [(y,u)])/\∀base:Heap,K.In base->base.Ns mainGlobals mg->sw P w K mg base z7 (k+1) fa fd [y] (Ik K (aN g 1 (N.length - 1))):=by
 obtain⟨f,fd,F1,a⟩:=F;have e:=TR.symm.trans (mg_of X G a);cases e
 refine⟨fd,λs u=>?_,λbase kb nb=>PJ F1 S (hb base kb nb _)⟩;obtain⟨oc,od,kV,doc,pm,an,eI,ct,oC,rfl,lk,jv⟩:=F1.ex;exact .of_eq (JY kV doc pm an eI ct u)
section
variable {X:Cx}{a b e:Expr}{pos:Pos}{x:Str}{p:Pos}
@[simp] noncomputable def Iv:D->D->OB
 |.lst xs,.lst ys=>if xs.length+ys.length<=sizeLine then some (.lst (xs++ys),true)else none
 |_,_=>none
theorem MD:dr X (binaryOp .Add) (rD X.K Iv):=by
 intro ae s σ H x y v u Q I rx ry q;obtain⟨B,dx,dy,d,bb,sB,ix,iy,ee,q⟩:=q;cases ix<;>try (cases ee;done)
 all_goals (cases iy<;>try (cases ee;done))
 rename_i l vs ds h hl l' ws es h' DS;simp only[Iv]at ee;split at ee
 ·rename_i hz;cases ee
  cases rx
  cases ry
  obtain⟨its,r1,p1,z1⟩:=I.list (sB.seq h);obtain⟨gu,r2,p2,z2⟩:=I.list (sB.seq h');obtain⟨⟨c1,d1,t1,s1⟩,o1,e1,n1,k1⟩:=p1.isList;obtain⟨⟨c2,d2,t2,s2⟩,o2,e2,n2,k2⟩:=p2.isList;dsimp only at e1 k1 e2 k2;subst e1;subst k1;subst e2;subst k2;have hsz:its.toArray.size+gu.toArray.size<=sizeLine:=by
   rw[vH,vH,←r1.length,←r2.length,hl.length,DS.length];exact hz
  have ea:its.toArray++gu.toArray=(its++gu).toArray:=by simp
  refine concat_meets ⟨_,o1,rfl⟩ ⟨_,o2,rfl⟩ noFill_list_add seq_list_add PySem.F.slot_list_add PySem.F.entry_list_add (PySem.F.args_list_add_2 _ _) (list_addW l l' its.toArray gu.toArray n1 n2 d1 d2 s1 s2 hsz) ⟨o1,o2,?_⟩;rw[ea];have xt:=Ext.laid (o:=.lst (vs++ws)) sB I.fresh;have il:=(hl.append DS).mono xt.bn;exact⟨.ref s.heap.objs.size,_,I.lnew (t':=s.toks) (r1.append r2) (by rw[uZ,hl.length,DS.length];exact hz),rfl,q _ _ _ xt (.lst (iA.of aE) il) λ_=>⟨_,_,_,rfl,rfl,I.fresh,aE,il⟩⟩
 ·cases ee
@[simp] noncomputable def sg:D->D->OB
 |.tup xs,.tup ys=>if xs.length+ys.length<=sizeLine/\xs.isEmpty=false then some (.tup (xs++ys),false)else none
 |_,_=>none
theorem EU:dr X (binaryOp .Add) (rD X.K sg):=by
 refine iR HJ λx y H Q q=>?_;obtain⟨B,dx,dy,d,bb,sB,ix,iy,ee,q⟩:=q;cases ix<;>try (cases ee;done)
 all_goals (cases iy<;>try (cases ee;done))
 rename_i l vs ds h hl l' ws es h' DS;simp only[sg]at ee;split at ee
 ·rename_i hz;cases ee
  have l1:=hl.length;have l2:=DS.length;refine⟨l,l',vs,ws,rfl,rfl,be sB h,be sB h',λz=>?_,by omega,λz=>?_,λ_ pp hp=>?_⟩
  ·subst z;cases hl
   simp at hz
  ·subst z;cases DS
   rw[uQ]at q;exact q.one sB (.tup h hl)
  ·have xt:=Ext.laid (o:=.tup (vs++ws)) sB hp;exact q _ _ _ xt (.tup (iZ.of aE) ((hl.append DS).mono xt.bn)) (by simp)
 ·cases ee
@[simp] noncomputable def EV:D->D->OB
 |.bl i,.int j=>some (.int ((if i=true then 1 else 0)+j),false)
 |.int i,.bl j=>some (.int (i+b2i j),false)
 |_,_=>none
theorem ME:dr X (binaryOp .Add) (rD X.K EV):=by
 intro ae s σ H x y v u Q I rx ry q;obtain⟨B,dx,dy,d,bb,sB,ix,iy,ee,q⟩:=q;cases ix<;>try (cases ee;done)
 all_goals (cases iy<;>try (cases ee;done))
 ·simp only[EV]at ee;cases ee
  cases rx
  obtain⟨t,rfl⟩:=ry;exact IntBool.add_bool_int ⟨.int _,H,I.tok _,⟨_,rfl⟩,q.one sB (.int _)⟩
 ·simp only[EV]at ee;cases ee
  exact C9 ae s σ H _ _ v u Q I rx ry ⟨_,_,rfl,rfl,q.one sB (.int _)⟩
@[simp] noncomputable def bS:D->D->OB
 |.int i,.int j=>some (.int (i+j),false)
 |.str i,.str j=>if i.length+j.length<=sizeLine then some (.str (i++j),false)else none
 |.lst xs,.lst ys=>if xs.length+ys.length<=sizeLine then some (.lst (xs++ys),true)else none
 |.tup xs,.tup ys=>if xs.length+ys.length<=sizeLine/\xs.isEmpty=false then some (.tup (xs++ys),false)else none
 |.bl i,.int j=>some (.int ((if i=true then 1 else 0)+j),false)
 |.int i,.bl j=>some (.int (i+b2i j),false)
 |_,_=>none
theorem bf:dr X (binaryOp .Add) (rD X.K bS):=by
 refine iR (r:=rD X.K (Ee Bj (Ee Iv (Ee sg EV)))) (mU Io (mU MD (mU EU ME))) λx y H Q q=>?_;obtain⟨B,dx,dy,d,bb,sB,ix,iy,ee,q⟩:=q;refine⟨B,dx,dy,d,bb,sB,ix,iy,?_,q⟩;cases dx<;>try (cases ee;done)
 all_goals (cases dy<;>try (cases ee;done))
 all_goals (simp[bS]at ee;simp[Ee,Bj,Iv,sg,EV,ee])
@[simp] noncomputable def SR:D->Option Bool
 |.bl b=>some b
 |_=>none
def pH:List D->Option (List Bool)
 |[]=>some []
 |d::ds=>(SR d).bind λb=>(pH ds).map (b :: ·)
@[simp] theorem PX:pH []=some []:=rfl
@[simp] theorem CW (d:D)(ds:List D):pH (d::ds)=(SR d).bind λb=>(pH ds).map (b :: ·):=rfl
theorem vn {K:Frag}{B:Hp}:∀ {vs:List V}{ds:List D}{bs:List Bool}{its:List Value},L2.aT vs its->IsL K B vs ds->pH ds=some bs->its=bs.map Value.bool
 |_,_,_,_,.nil,.nil,e=>by cases e;rfl
 |_,_,_,_,.cons r rr,.cons i ii,e=>by
  rw[CW]at e;obtain⟨b,e1,e⟩:=oX e;obtain⟨bs,e2,e⟩:=oY e;subst e;cases i<;>simp only[SR]at e1<;>try (cases e1;done)
  cases e1
  cases r
  rw[vn rr ii e2];rfl
@[simp] def MF:List D->OB
 |[.lst ds]=>(pH ds).map λbs=>(.bl (bs.all id),false)
 |_=>none
@[simp] def EW:List D->OB
 |[.lst ds]=>(pH ds).map λbs=>(.bl (bs.any id),false)
 |_=>none
theorem PY (hc:X.calm=true:=by rfl):bQ X (.builtin "all") (CO X.K MF):=by
 intro ae s σ H xs us Q I rs q;obtain⟨B,ds,d,bb,sB,i,ee,q⟩:=q;match ds,i,ee with
 |[.lst es],.cons i1 .nil,ee=>
  obtain⟨bs,eb,ee⟩:=oY ee;cases ee
  obtain⟨u1,rfl,r1⟩:=gP rs;cases i1 with
  |@lst l vs _ h hl=>
   cases r1
   obtain⟨its,rv,p1,z1⟩:=I.list (sB.seq h);have ei:=vn rv hl eb;have fG:l<s.heap.objs.size:=by obtain⟨_,e0,_⟩:=p1.isList;exact vX e0
   refine call_all_walk (wpAny_pyIter_list p1.isList ⟨_,_,_,_,_,_,λj=>(bs[j]?).getD true,rfl,Walks.list (A:=X.A.in1) (I.ok.hd hc) s.heap.objs.size l (vS fG) its.toArray,⟨⟨_,vY _ rfl,rfl,rfl⟩,p1.isList.push _⟩,λj v s' Q' E' hP hQ=>?_,λh' tk hk=>?_⟩)
   ·have QN:its[j]? = some v:=by simpa using hP
    rw[ei,vA]at QN;obtain⟨c,e1,e2⟩:=oY QN;subst e2;dsimp only at hQ;rw[e1]at hQ;exact wpAny_truthy_bool hQ
   ·have ea:((List.range its.toArray.size).all λj=>(bs[j]?).getD true)=bs.all id:=by
     rw[vH,ei,vI];exact LSm.range_all bs
    rw[ea];refine⟨.bl _,H,I.kept λc o e0=>?_,rfl,q.one sB (.bl _)⟩;exact hk c o (λhm=>by rw[uT hm]at e0;exact Nat.lt_irrefl _ (vX e0)) (vZ _ e0)
theorem KN (hc:X.calm=true:=by rfl):bQ X (.builtin "any") (CO X.K EW):=by
 intro ae s σ H xs us Q I rs q;obtain⟨B,ds,d,bb,sB,i,ee,q⟩:=q;match ds,i,ee with
 |[.lst es],.cons i1 .nil,ee=>
  obtain⟨bs,eb,ee⟩:=oY ee;cases ee
  obtain⟨u1,rfl,r1⟩:=gP rs;cases i1 with
  |@lst l vs _ h hl=>
   cases r1
   obtain⟨its,rv,p1,z1⟩:=I.list (sB.seq h);have ei:=vn rv hl eb;have fG:l<s.heap.objs.size:=by obtain⟨_,e0,_⟩:=p1.isList;exact vX e0
   refine call_any_walk (wpAny_pyIter_list p1.isList ⟨_,_,_,_,_,_,λj=>(bs[j]?).getD false,rfl,Walks.list (A:=X.A.in1) (I.ok.hd hc) s.heap.objs.size l (vS fG) its.toArray,⟨⟨_,vY _ rfl,rfl,rfl⟩,p1.isList.push _⟩,λj v s' Q' E' hP hQ=>?_,λh' tk hk=>?_⟩)
   ·have QN:its[j]? = some v:=by simpa using hP
    rw[ei,vA]at QN;obtain⟨c,e1,e2⟩:=oY QN;subst e2;dsimp only at hQ;rw[e1]at hQ;exact wpAny_truthy_bool hQ
   ·have ea:((List.range its.toArray.size).any λj=>(bs[j]?).getD false)=bs.any id:=by
     rw[vH,ei,vI];exact LSm.range_any bs
    rw[ea];refine⟨.bl _,H,I.kept λc o e0=>?_,rfl,q.one sB (.bl _)⟩;exact hk c o (λhm=>by rw[uT hm]at e0;exact Nat.lt_irrefl _ (vX e0)) (vZ _ e0)
theorem KO:bootBuiltins "any" = some (.builtin "any"):=by decide +kernel
end
noncomputable def RC (z:Str):It:=⟨λi _=>i<z.cps.size,λi H v H'=>H'=H/\∃c,z.cps[i]? = some c/\v=.str ⟨#[c]⟩,λi _=>z.cps.size<=i⟩
theorem xO {P:Program}{w:World}{K:Frag}{tg:Expr}(z:Str)(t:Tok)(it:Addr):Turn P w K tg (RC z) [it] it (λi h=>h.IsStrIter it "str_ascii_iterator" z t i) where
 mem:=List.mem_singleton.mpr rfl
 obj:=λi h st b hb=>by
  have eb:=uT hb;subst eb;obtain⟨o,e1,_,d1⟩:=st;exact⟨o,e1,λv zz=>by rw[d1]at zz;cases zz⟩
 keep:=λi h h' st k=>let ⟨o,e1,r⟩:=st;⟨o,k it (List.mem_singleton.mpr rfl) o e1,r⟩
 item:=by
  intro X hP hw hK hc i ae s σ H E I hf st hg;subst hP hw hK;have NI:i<z.cps.size:=hg;obtain⟨f0,f1,f2,f3,f4,f5⟩:=hf it (List.mem_singleton.mpr rfl);refine wpAny_pyNext_ascii_item st (c:=z.cps[i]) (by simp[NI]) λh' lO sb=>?_;obtain⟨o,e1,c1,d1⟩:=id lO;exact⟨_,rfl,sD (s:={ s with heap:=h',toks:=s.toks+1 }) e1 c1 d1 (by decide) ⟨.str ⟨#[z.cps[i]]⟩,H,I.turned (λb o hb e2=>(sb.2 b hb).trans e2) f0 f1 f3 f4 f5,⟨_,rfl⟩,⟨rfl,_,by simp[NI],rfl⟩,lO,λb hb=>(hf b hb).1⟩⟩
 done:=by
  intro X hP hw hK hc i ae s σ H E I hf st hg;subst hP hw hK;have NI:z.cps.size<=i:=hg;obtain⟨f0,f1,f2,f3,f4,f5⟩:=hf it (List.mem_singleton.mpr rfl);exact wpAny_pyNext_ascii_end (I.ok.hd hc) st (by simp;omega) λh' eb=>⟨rfl,I.turned (t':=s.toks) (λb o hb e2=>eb b o hb e2) f0 f1 f3 f4 f5⟩
 self:=λ_ _ _ _ _ st h=>wpAny_pyIter_striter_ascii st h
theorem xP {P:Program}{w:World}{K:Frag}{tg:Expr}(z:Str)(t:Tok)(it:Addr):Turn P w K tg (RC z) [it] it (λi h=>h.IsStrIter it "str_iterator" z t i) where
 mem:=List.mem_singleton.mpr rfl
 obj:=λi h st b hb=>by
  have eb:=uT hb;subst eb;obtain⟨o,e1,_,d1⟩:=st;exact⟨o,e1,λv zz=>by rw[d1]at zz;cases zz⟩
 keep:=λi h h' st k=>let ⟨o,e1,r⟩:=st;⟨o,k it (List.mem_singleton.mpr rfl) o e1,r⟩
 item:=by
  intro X hP hw hK hc i ae s σ H E I hf st hg;subst hP hw hK;have NI:i<z.cps.size:=hg;obtain⟨f0,f1,f2,f3,f4,f5⟩:=hf it (List.mem_singleton.mpr rfl);refine wpAny_pyNext_wide_item st (c:=z.cps[i]) (by simp[NI]) λh' lO sb=>?_;obtain⟨o,e1,c1,d1⟩:=id lO;exact⟨_,rfl,sD (s:={ s with heap:=h',toks:=s.toks+1 }) e1 c1 d1 (by decide) ⟨.str ⟨#[z.cps[i]]⟩,H,I.turned (λb o hb e2=>(sb.2 b hb).trans e2) f0 f1 f3 f4 f5,⟨_,rfl⟩,⟨rfl,_,by simp[NI],rfl⟩,lO,λb hb=>(hf b hb).1⟩⟩
 done:=by
  intro X hP hw hK hc i ae s σ H E I hf st hg;subst hP hw hK;have NI:z.cps.size<=i:=hg;obtain⟨f0,f1,f2,f3,f4,f5⟩:=hf it (List.mem_singleton.mpr rfl);exact wpAny_pyNext_wide_end (I.ok.hd hc) st (by simp;omega) λh' eb=>⟨rfl,I.turned (t':=s.toks) (λb o hb e2=>eb b o hb e2) f0 f1 f3 f4 f5⟩
 self:=λ_ _ _ _ _ st h=>wpAny_pyIter_striter_wide st h
section
variable {X:Cx}{a b e:Expr}{pos:Pos}{x:Str}{p:Pos}{tg:Expr}
theorem EX {l:Expr}{tl:TE}(hl:PE X l tl):PI X tg l (λσ H R=>tl σ H λx H1=>∃z,x=.str z/\R (RC z) H1):=by
 intro ae s σ H R I h;refine cx (hl ae s σ H _ I h) λv s1 ⟨x,H1,I1,r1,q1⟩=>?_;obtain⟨z,rfl,q⟩:=q1;obtain⟨t,rfl⟩:=r1;have fp:∀b∈[s1.heap.objs.size],mR X ae H1 b:=λb hb=>by
  rw[uT hb];exact I1.fpOk (vT _) (I1.hok.fresh (vT _))
 cases ha:z.cps.all (· < 128) with
 |true=>exact wpAny_pyIter_ascii ha ⟨_,[s1.heap.objs.size],_,_,H1,rfl,I1.kept (t':=s1.toks) λb o e=>vZ _ e,xO z t _,⟨_,vY _ rfl,rfl,rfl⟩,fp,q⟩
 |false=>exact wpAny_pyIter_wide ha ⟨_,[s1.heap.objs.size],_,_,H1,rfl,I1.kept (t':=s1.toks) λb o e=>vZ _ e,xP z t _,⟨_,vY _ rfl,rfl,rfl⟩,fp,q⟩
noncomputable def Bn (z:Str):List D:=z.cps.toList.map λc=>.str ⟨#[c]⟩
theorem EY {K:Frag}{B:Hp}(z:Str):oH K (RC z) B (Bn z):=by
 intro i H s;refine⟨λd ed=>?_,λhl=>by unfold Bn at hl;show z.cps.size<=i;simpa using hl⟩;unfold Bn at ed;rw[vA]at ed;obtain⟨c,ec,rfl⟩:=oY ed;have VB:z.cps[i]? = some c:=by simpa using ec
 refine⟨(Array.getElem?_eq_some_iff.mp VB).1,λv H' hy=>?_⟩;obtain⟨rfl,c',e1,rfl⟩:=hy;rw[VB]at e1;cases e1;exact⟨B,.refl s,.str _⟩
@[simp] def MG:D->Option (List D)
 |.lst ds=>some ds
 |.tup ds=>some ds
 |.str z=>some (Bn z)
 |_=>none
@[simp] def cm (f:FE):FA:=λρ=>(f ρ).bind λx=>MG x.1
theorem cr (h:JE X e f):JI X tg e (cm f):=by
 intro ae s σ H R I q;obtain⟨B,ρ,ds,sB,r,e',q⟩:=q;obtain⟨xx,ex,es⟩:=oX e';obtain⟨xd,xb⟩:=xx;cases xd with
 |lst l=>exact Bm h ae s σ H R I ⟨B,ρ,ds,sB,r,by unfold ES;rw[ex];exact es,q⟩
 |tup l=>exact Bm h ae s σ H R I ⟨B,ρ,ds,sB,r,by unfold ES;rw[ex];exact es,q⟩
 |str z=>
  cases es
  refine EX h ae s σ H R I ⟨B,ρ,_,_,sB,r,ex,λv H1 N1 x1 i1 _=>?_⟩;cases i1
  exact⟨z,rfl,q _ H1 N1 x1 (EY z)⟩
 |_=>cases es
theorem Iw:Ed X (λx lo hi H Q=>∃z,x=.str z/\z.length<=sizeLine/\Q (.str (Txt.slice z lo hi)) H):=by
 intro ae s σ H x v vl vu lo hi sl Q I rx hs pl pu h;obtain⟨z,rfl,hz,q⟩:=h;obtain⟨t,rfl⟩:=rx;have kX:∀lo hi,Q (.str (Txt.slice z lo hi)) H->(Txt.slice z lo hi).length<=sizeLine/\∀t' k,EP X ae σ Q (.str (Txt.slice z lo hi) t') { s with toks:=k }:=λlo hi q=>
  ⟨vR (Txt.slice_le z _ _) hz,λt' k=>⟨.str _,H,I.tok k,⟨t',rfl⟩,q⟩⟩
 refine⟨"str",_,PySem.F.slot_str_getitem.lookup,typeIs_str _ _ _,?_⟩;cases pl with
 |none=>
  cases pu with
  |none=>exact wpAny_getItem_str_slice (l:=none) (u:=none) (st:=none) hs rfl (post_val_or_str (kX _ _ q))
  |int j tj=>exact wpAny_getItem_str_slice (l:=none) (u:=some (j,tj)) (st:=none) hs rfl (post_val_or_str (kX _ _ q))
 |int i ti=>
  cases pu with
  |none=>exact wpAny_getItem_str_slice (l:=some (i,ti)) (u:=none) (st:=none) hs rfl (post_val_or_str (kX _ _ q))
  |int j tj=>exact wpAny_getItem_str_slice (l:=some (i,ti)) (u:=some (j,tj)) (st:=none) hs rfl (post_val_or_str (kX _ _ q))
theorem CY {A:Around}{E:Value->Shared->Prop}{s:Shared}{prog:Program}{w:World}{t sl:Addr}{items:Array Value}{vl vu:Value}{lo hi:Option Int}{Q:Value->Shared->Prop}(ht:IsTup s.heap t items)(hs:s.heap.IsSliceOf sl vl vu .none)(pl:IsPart vl lo)(pu:IsPart vu hi)
  (h0:HT.dX items.size 0 lo=0) (h1:HT.dX items.size items.size hi=items.size) (h:Q (.ref t) s):wpAny (model prog w) A (getItem (.ref t) (.ref sl)) Q E s:=by
 obtain⟨os,JQ,wP,NB⟩:=id hs
 have hT:s.TypeIs (.ref sl) "slice":=⟨os,JQ,wP⟩
 unfold getItem
 try with_reducible refine wpAny_holding ?_
 first|refine wX (wY ?_)|skip
 refine wX (wpAny_sequenceKey ht.typeIs (by decide) ?_)
 refine wX (wpAny_callSpecial?_slot (name:=Str.ofString "__getitem__") ht.typeIs PyProof.Rows.slot_tuple_getitem (wpAny_call_entry PyProof.Rows.slot_tuple_getitem ht.typeIs entry_tuple_getitem ?_ (args_tuple_getitem _ _)))
 show wpAny _ _ (Builtin.Tuple.tupleItemsOf (.ref t)>>=_) _ _ s
 refine wX (tupleItemsOf_ ht ?_)
 refine wX (wpAny_typeOf hT ?_)
 rw[if_pos (by decide)]
 refine wX (HT.ja hs pl pu ?_)
 have XG:(((HT.dX items.size 0 lo:Nat):Int) == 0 && (1:Int) == 1 && (HT.dX items.size items.size hi - HT.dX items.size 0 lo) == items.size)=true:=by
  rw[h0,h1];simp
 show wpAny _ _ (if(((HT.dX items.size 0 lo:Nat):Int) == 0 && (1:Int) == 1 && (HT.dX items.size items.size hi - HT.dX items.size 0 lo) == items.size)=true then _ else _) _ _ s
 rw[if_pos XG]
 refine wX ?_
 unfold Builtin.Tuple.tupleIsExact
 refine wX (wpAny_typeOf ht.typeIs (wY ?_))
 show wpAny _ _ (if((Value.type "tuple") == Value.type "tuple")=true then _ else _) _ _ s
 rw[if_pos (by decide)]
 refine wX (wpAny_rule ?_)
 exact wY ⟨_,rfl,wY h⟩
theorem Ix:Ed X (λx lo hi H Q=>∃a xs,x=.ref a/\iZ X.K H a xs/\HT.dX xs.length 0 lo=0/\HT.dX xs.length xs.length hi=xs.length/\Q (.ref a) H):=by
 intro ae s σ H x v vl vu lo hi sl Q I rx hs pl pu h;obtain⟨a,xs,rfl,hx,h0,h1,q⟩:=h;cases rx
 obtain⟨its,r,ht,hz⟩:=I.tuple hx;have bF:its.toArray.size=xs.length:=by rw[vH];exact r.length.symm
 refine⟨"tuple",_,PyProof.Rows.slot_tuple_getitem.lookup,ht.typeIs,?_⟩;exact CY ht hs pl pu (by rw[bF];exact h0) (by rw[bF];exact h1) ⟨.ref a,H,I,rfl,q⟩
@[simp] def RD (fa:FE)(fl fh:FO):FE:=λρ=>(fa ρ).bind λx=>(fl ρ).bind λl=>(fh ρ).bind λh=>match x.1 with
 |.lst ds=>some (.lst (se ds l h),true)
 |.tup ds=>some (.tup (se ds l h),false)
 |.str z=>if z.length<=sizeLine then some (.str (Txt.slice z l h),false)else none
 |_=>none
theorem Ag {ds:List D}{lo hi:Option Int}(h0:HT.dX ds.length 0 lo=0)(h1:HT.dX ds.length ds.length hi=ds.length):se ds lo hi=ds:=by
 unfold se;rw[h0,h1];simp
theorem EZ {lo hi:Option Expr}{p2:Pos}{fa:FE}{fl fh:FO}(ha:JE X e fa)(hl:JO X lo fl)(hh:JO X hi fh):JE X (.Subscript e (.Slice lo hi none p2) pos) (RD fa fl fh):=by
 refine PE.to (Ex (Ed.or (Ed.or HN Mh) (Ed.or Iw Ix)) ha hl hh) λσ H Q q=>?_;obtain⟨B,ρ,d,b,sB,r,e,q⟩:=q;obtain⟨x,ex,e⟩:=oX e;obtain⟨l,el,e⟩:=oX e;obtain⟨h,eh,e⟩:=oX e;refine⟨B,ρ,x.1,x.2,sB,r,ex,λv H1 N1 x1 i1 _=>⟨N1,ρ,l,x1.nh,r.mono x1.bn,el,λH2 h2=>⟨N1,ρ,h,x1.nh.trans h2,r.mono x1.bn,eh,λH3 h3=>?_⟩⟩⟩;have s3:aU N1 H3:=x1.nh.trans (h2.trans h3);have q3:=q.into (x1.trans (.grow x1.nh (h2.trans h3)));obtain⟨xd,xb⟩:=x;dsimp only at e i1;cases i1 with
 |@tup a' vs ds hs hv=>
  cases e
  by_cases hw:HT.dX ds.length 0 l=0/\HT.dX ds.length ds.length h=ds.length
  ·rw[Ag hw.1 hw.2]at q3;exact .inr (.inr ⟨a',vs,rfl,be s3 hs,by rw[hv.length];exact hw.1,by rw[hv.length];exact hw.2,q3.one s3 (.tup hs hv)⟩)
  ·refine .inl (.inr ⟨a',vs,rfl,be s3 hs,by rw[hv.length];exact hw,λp hp=>?_⟩);have x4:=Ext.laid (o:=.tup (rX vs l h)) s3 hp;exact q3 _ _ _ x4 (.tup (iZ.of aE) ((vi hv).mono x4.bn)) (by simp)
 |@lst a' vs ds hs hv=>
  cases e
  refine .inl (.inl ⟨a',vs,rfl,s3.seq hs,λp hp=>?_⟩);have x4:=Ext.laid (o:=.lst (rX vs l h)) s3 hp;exact q3 _ _ _ x4 (.lst (iA.of aE) ((vi hv).mono x4.bn)) λ_=>⟨p,_,_,rfl,rfl,hp,aE,(vi hv).mono x4.bn⟩
 |str z=>
  dsimp only at e;split at e
  ·rename_i hz;cases e
   exact .inr (.inl ⟨z,rfl,hz,q3.one s3 (.str _)⟩)
  ·cases e
 |_=>cases e
noncomputable def vp:Value->D->Bool
 |.none,.non=>true
 |.bool a,.bl b=>a == b
 |.int i _,.int j=>decide (i=j)
 |.str i _,.str j=>decide (i=j)
 |_,_=>false
def jz:List Value->List D->Bool
 |[],[]=>true
 |u::us,d::ds=>vp u d && jz us ds
 |_,_=>false
theorem kE {K:Frag}{B:Hp}:∀ {u:Value}{d:D},vp u d=true->∃v,aX v u/\Is K B v d
 |.none,.non,_=>⟨.non,rfl,.non⟩
 |.bool a,.bl b,h=>by
  have:a=b:=eq_of_beq h;subst this;exact⟨.bl a,rfl,.bl a⟩
 |.int i t,.int j,h=>by
  have:i=j:=of_decide_eq_true h;subst this;exact⟨.int i,⟨t,rfl⟩,.int i⟩
 |.str i t,.str j,h=>by
  have:i=j:=of_decide_eq_true h;subst this;exact⟨.str i,⟨t,rfl⟩,.str i⟩
theorem j0 {K:Frag}:∀ {us:List Value}{ds:List D},jz us ds=true->∃vs,L2.aT vs us/\∀B,IsL K B vs ds
 |[],[],_=>⟨[],.nil,λ_=>.nil⟩
 |u::us,d::ds,h=>by
  rw[jz,vC]at h;obtain⟨vs,r,i⟩:=j0 (K:=K) h.2;obtain⟨v,r1,_⟩:=kE (K:=K) (B:=λ_=>none) h.1;refine⟨v::vs,.cons r1 r,λB=>?_⟩;obtain⟨v',GQ,i'⟩:=kE (K:=K) (B:=B) h.1;have:v'=v:=by have z1:=r1.abs;rw[GQ.abs]at z1;exact vK z1
  subst this;exact .cons i' (i B)
theorem const_tup {K:Frag}{y:Str}{a:Addr}{od:Option Addr}{its:Array Value}{n:Nat}{oC:Array (Option Value)}{ds:List D}(e:nsIn K mainGlobals y=some (some (.ref a)))
  (l:K.lookup a=some ⟨.type "tuple",od,.seq its n,oC⟩) (h:(decide (its.size<=1000) && jz its.toList ds)=true):∃u v,nsIn K mainGlobals y=some (some u)/\aX v u/\∀B,Is K B v (.tup ds):=by
 rw[vC]at h;obtain⟨vs,r,i⟩:=j0 (K:=K) h.2;exact⟨_,.ref a,e,rfl,λB=>.tup (.inr ⟨_,its,n,l,rfl,rfl,Nat.le_of_lt (Nat.lt_of_le_of_lt (of_decide_eq_true h.1) (by decide)),r⟩) (i B)⟩
end
section
variable {X:Cx}{a b o e:Expr}{pos:Pos}{x:Str}{p:Pos}{tg:Expr}
theorem MH {name:Str}{id:String}{dw cA:Pos}{op:D->D->OB}{fo fe:FE}(slot:Slot "str" name id)(Lp:typeOf (.builtin id)=pure (.type "method_descriptor"))
  (hm:HL X id (λx xs H Q=>∃y,xs=[y]/\rD X.K op x y H Q)) (GR:∀dx dy r,op dx dy=some r->∃z,dx=.str z) (ho:JE X o fo) (he:JE X e fe)
  (iw:attributeBase o name X.env (eval o X.env)=eval o X.env:=by rfl)
  (AO:((backTo cA (starEach [e] X.env)).all (λx=>!x.1) && (backToKw cA (keywordEach [] X.env)).all (λx=>x.1.isSome)
   && decide ([e].length+([]:List Keyword).length+(if([]:List Keyword).isEmpty then 0 else 1)<30))=true:=by rfl)
  (iz:(dw.endLine == cA.line)=true:=by rfl) (hs:starEach [e] X.env=[(false,eval e X.env)]:=by rfl):
  JE X (.Call (.Attribute o name dw) [e] [] cA) (f2 op fo fe):=by
 refine PE.to (E1 PySem.F.plainAttrs_str slot Lp hm ho (iF he jR hs) iw AO iz hs rfl) λσ H Q q=>?_;obtain⟨B,ρ,d,bb,sB,r,ee,q⟩:=q;obtain⟨x1,ex,ee⟩:=oX ee;obtain⟨y1,ey,ee⟩:=oX ee;obtain⟨z,hz⟩:=GR _ _ _ ee;refine⟨B,ρ,x1.1,x1.2,sB,r,ex,λv H1 N1 TU i1 _=>?_⟩;rw[hz]at i1;cases i1
 refine⟨show "str" = "str" from rfl,N1,ρ,y1.1,y1.2,TU.nh,r.mono TU.bn,ey,λv2 H2 N2 QO i2 _=>⟨v2,rfl,N2,.str z,y1.1,d,bb,QO.nh,.str z,i2,by rw[←hz];exact ee,q.into (TU.trans QO)⟩⟩
@[simp] noncomputable def MI:D->Option Str
 |.str z=>some z
 |_=>none
def gB:List D->Option (List Str)
 |[]=>some []
 |d::ds=>(MI d).bind λz=>(gB ds).map (z :: ·)
@[simp] theorem Oy:gB []=some []:=rfl
@[simp] theorem Ah (d:D)(ds:List D):gB (d::ds)=(MI d).bind λz=>(gB ds).map (z :: ·):=rfl
@[simp] theorem Oz (zs:List Str):gB (zs.map D.str)=some zs:=by
 induction zs with
 |nil=>rfl
 |cons z zs ih=>simp[ih]
theorem jY {K:Frag}{B:Hp}:∀ {vs:List V}{ds:List D}{zs:List Str}{its:List Value},L2.aT vs its->IsL K B vs ds->gB ds=some zs->StrsAre its zs
 |_,_,_,_,.nil,.nil,e=>by cases e;exact .nil
 |_,_,_,_,.cons r rr,.cons i ii,e=>by
  rw[Ah]at e;obtain⟨z,e1,e⟩:=oX e;obtain⟨zs,e2,e⟩:=oY e;subst e;cases i<;>simp only[MI]at e1<;>try (cases e1;done)
  cases e1
  obtain⟨t,rfl⟩:=r;exact .cons _ t (jY rr ii e2)
@[simp] def nX:D->D->OB
 |.str sep,.lst ds=>(gB ds).bind λzs=>if(zs.map (·.length)).sum+zs.length*sep.length<=16777216 then some (.str (Txt.join sep zs),false)else none
 |.str sep,.tup ds=>(gB ds).bind λzs=>if(zs.map (·.length)).sum+zs.length*sep.length<=16777216 then some (.str (Txt.join sep zs),false)else none
 |_,_=>none
theorem MJ:HL X "str.join" (λx xs H Q=>∃y,xs=[y]/\rD X.K nX x y H Q):=by
 intro ae s σ H x xs v us Q I rx rs h;obtain⟨y,rfl,B,dx,dy,d,bb,sB,ix,iy,ee,q⟩:=h;obtain⟨u1,rfl,r1⟩:=gP rs;cases ix<;>(try (simp[nX]at ee;done))
 obtain⟨t,rfl⟩:=rx;cases iy<;>(try (simp[nX]at ee;done))
 ·rename_i h hl;simp only[nX]at ee;obtain⟨zs,ez,ee⟩:=oX ee;split at ee
  ·rename_i hok;cases ee
   cases r1
   obtain⟨its,rv,p1,z1⟩:=I.tuple (be sB h);exact join_tuple p1 (by simpa using jY rv hl ez) hok λt' k=>⟨.str _,H,I.tok k,⟨t',rfl⟩,q.one sB (.str _)⟩
  ·cases ee
 ·rename_i h hl;simp only[nX]at ee;obtain⟨zs,ez,ee⟩:=oX ee;split at ee
  ·rename_i hok;cases ee
   cases r1
   obtain⟨its,rv,p1,z1⟩:=I.list (sB.seq h);exact join_list p1.isList (by simpa using jY rv hl ez) hok λt' k=>⟨.str _,H,I.tok k,⟨t',rfl⟩,q.one sB (.str _)⟩
  ·cases ee
theorem Fa (dx dy:D)(r:D×Bool)(h:nX dx dy=some r):∃z,dx=.str z:=by
 cases dx<;>first|exact⟨_,rfl⟩|(cases dy<;>simp[nX]at h)
noncomputable def gh:List Nat->List D->Env->Option Env
 |[],[],ρ=>some ρ
 |i::is,d::ds,ρ=>gh is ds (ρ.set i (some (d,false)))
 |_,_,_=>none
@[simp] theorem sV (ρ:Env):gh [] [] ρ=some ρ:=by rw[gh]
@[simp] theorem l7 (i:Nat)(is:List Nat)(d:D)(ds:List D)(ρ:Env):gh (i::is) (d::ds) ρ=gh is ds (ρ.set i (some (d,false))):=by rw[gh]
@[simp] theorem PZ (d:D)(ds:List D)(ρ:Env):gh [] (d::ds) ρ=none:=by simp only[gh]
@[simp] theorem Qa (i:Nat)(is:List Nat)(ρ:Env):gh (i::is) [] ρ=none:=by simp only[gh]
@[simp] def Hh (is:List Nat):FG:=λd ρ=>match d with|.tup ds=>gh is ds ρ|_=>none
def pJ:List Nat->LN
 |[]=>Pd
 |i::is=>Kg (jF i) (pJ is)
theorem Fb:aU (dY N (own σ ρ)) (dY N (own (σ.set i (some v)) (ρ.set i (some (d,false))))):=eJ λa u e q=>⟨e,λz=>q (by
 rcases uL z with⟨_,d',p⟩|⟨j,_,d',q1,q2⟩
 ·cases p
 ·exact⟨j,d',q1,q2⟩)⟩
theorem sW {K:Frag}:∀ {is:List Nat}{vs:List V}{ds:List D}{B0 H0 N H:Hp}{σ:St}{ρ ρ':Env}{Q:St->Hp->Prop},eE K B0 H0 N H σ ρ->IsL K (dY N (own σ ρ)) vs ds->gh is ds ρ=some ρ'->(∀σ',eE K B0 H0 N H σ' ρ'->Q σ' H)->pJ is vs σ H Q
 |[],_,_,_,_,_,_,_,_,_,_,s,.nil,e,k=>by
  rw[sV]at e;cases e;exact⟨rfl,k _ s⟩
 |[],_,_,_,_,_,_,_,_,_,_,_,.cons _ _,e,_=>by simp at e
 |_::_,_,_,_,_,_,_,_,_,_,_,_,.nil,e,_=>by simp at e
 |i::is,_,_,_,_,_,_,_,_,_,_,s,.cons h hs,e,k=>by
  rw[l7]at e;exact⟨_,_,rfl,sW (s.bind h) (hs.mono Fb) e k⟩
theorem mV:∀ {is:List Nat}{ds:List D}{ρ ρ':Env},gh is ds ρ=some ρ'->ds.length=is.length
 |[],[],_,_,_=>rfl
 |_::_,_::_,_,_,e=>by rw[l7]at e;simp[mV e]
 |[],_::_,_,_,e=>by simp at e
 |_::_,[],_,_,e=>by simp at e
theorem KP {K:Frag}{is:List Nat}:HX K (Hh is) (LP K is.length (pJ is)):=by
 intro B0 H0 N H σ ρ ρ' v d Q s h e k;cases h with
 |@tup a vs ds ht hl=>
  have e':gh is ds ρ=some ρ':=e;exact⟨a,vs,rfl,be (bI.trans s.ext.nh) ht,by rw[hl.length];exact mV e',sW s hl e' λσ' s'=>k σ' H ⟨N,s'⟩⟩
 |_=>cases e
theorem sX {K:Frag}{n:Nat}{B H:Hp}{ρ0:Env}{Q:St->Hp->Prop}(cl:∀i,i<n->ρ0[i]? = some none):∀ {is:List Nat}{vs:List V}{ds:List D}{σ:St}{ρ ρ1:Env},(∀i∈is,i<n)->fE K B σ ρ->IsL K B vs ds->gh is ds ρ=some ρ1->ρ.length=σ.length->ρ.length=ρ0.length ->
  (∀σ1,fE K B σ1 ρ1->(∀B',fE K B' σ ρ0->fE K B' σ1 ρ0)->ρ0.length=σ1.length->Q σ1 H)->pJ is vs σ H Q
 |[],_,_,_,_,_,_,rp,.nil,e,l1,l2,k=>by
  rw[sV]at e;cases e;exact⟨rfl,k _ rp (λ_ z=>z) (by omega)⟩
 |[],_,_,_,_,_,_,_,.cons _ _,e,_,_,_=>by simp at e
 |_::_,_,_,_,_,_,_,_,.nil,e,_,_,_=>by simp at e
 |i::is,_,_,σ,ρ,_,hn,rp,.cons (v:=v) h hs,e,l1,l2,k=>by
  rw[l7]at e;have hi:=hn i mX;have DK:i<σ.length:=by
   have:=(vV (cl i hi)).1;omega
  refine⟨_,_,rfl,sX cl (λj hj=>hn j (mZ _ hj)) ⟨rp.tb,λj d b q=>?_⟩ hs e (by simpa using l1) (by simpa using l2) λσ1 r1 r2 l=>k σ1 r1 (λB' z=>r2 B' ⟨z.tb,λj d b q=>?_⟩) l⟩
  ·rcases bW q with⟨rfl,pp⟩|⟨ne,pp⟩
   ·cases pp
    exact⟨v,by simp[DK],h⟩
   ·obtain⟨w,h1,h2⟩:=rp.at' j d b pp;exact⟨w,by rw[vB ne];exact h1,h2⟩
  ·obtain⟨w,h1,h2⟩:=z.at' j d b q;have ne:i≠j:=λz=>by subst z;rw[cl i hi]at q;cases q
   exact⟨w,by rw[vB ne];exact h1,h2⟩
theorem KQ {K:Frag}{n:Nat}{is:List Nat}(hn:∀i∈is,i<n):Kt K n (Hh is) (LP K is.length (pJ is)):=by
 intro B H σ ρ ρ1 v d Q cl rep s h e hl k;cases h with
 |@tup a vs ds ht hv=>
  have e':gh is ds ρ=some ρ1:=e;exact⟨a,vs,rfl,be s ht,by rw[hv.length];exact mV e',sX cl hn rep hv e' hl rfl k⟩
 |_=>cases e
end
section
variable {prog:Program}{w:World}{A:Around}{E:Value->Shared->Prop}{s:Shared}
theorem Ai (st:s.heap.IsTupleIter it l i)(ht:s.heap.IsTuple l items)(hv:items[i]? = some v)
  (k:∀h',h'.IsTupleIter it l (i+1)->Heap.SameBut it s.heap h'->Q v { s with heap:=h' }):wpAny (model prog w) A (Builtin.SmallTypes.nextOf (.ref it)) Q E s:=by
 obtain⟨o1,g1,c1,d1⟩:=id st;obtain⟨o2,g2,_,n2,d2⟩:=ht;unfold Builtin.SmallTypes.nextOf;refine wX (wpAny_callSpecial?_slot (name:=Str.ofString "__next__") st.typeIs PySem.F.slot_tuple_iterator_next (wpAny_call_entry PySem.F.slot_tuple_iterator_next st.typeIs PySem.F.entry_tuple_iterator_next ?_ (PySem.F.args_tuple_iterator_next_1 _)));show wpAny _ _ (field (.ref it) 0>>=_) _ _ _;refine wX (wpAny_field g1 d1 (x:=.ref l) rfl ?_);show wpAny _ _ (if(Value.ref l == Value.none)=true then _ else _) _ _ _;rw[if_neg (λz=>uX z:¬((Value.ref l == Value.none)=true))];show wpAny _ _ (field (.ref it) 1>>=_) _ _ _;refine wX (wpAny_field g1 d1 (x:=.int i 0) rfl ?_);show wpAny _ _ (seqItems? (.ref l)>>=_) _ _ _;refine wX (wpAny_seqItems g2 d2 ?_);simp only[hv,Int.toNat_natCast];refine wX (wpAny_setField g1 d1 (by simp) (wY ⟨v,rfl,wY (k _ ?_ (vW ..))⟩));exact⟨_,Heap.get?_update_self _ g1 (Obj.isFreed_of_fields (Obj.data_mapFields d1 _)),(Obj.cls_mapFields ..).trans c1,by rw[Obj.data_mapFields d1];simp[rawInt]⟩
theorem CZ (hA:A.handled=none)(st:s.heap.IsTupleIter it l i)(ht:s.heap.IsTuple l items)(hv:items[i]? = none)
  (k:∀h' x,Heap.ExtBut it s.heap h'->(∃o,h'.get? x=some o/\o.cls=.type "StopIteration")->E (.ref x) { s with heap:=h' }):wpAny (model prog w) A (Builtin.SmallTypes.nextOf (.ref it)) Q E s:=by
 obtain⟨o1,g1,c1,d1⟩:=id st;obtain⟨o2,g2,_,n2,d2⟩:=ht;unfold Builtin.SmallTypes.nextOf;refine wX (wpAny_callSpecial?_slot (name:=Str.ofString "__next__") st.typeIs PySem.F.slot_tuple_iterator_next (wpAny_call_entry PySem.F.slot_tuple_iterator_next st.typeIs PySem.F.entry_tuple_iterator_next ?_ (PySem.F.args_tuple_iterator_next_1 _)));show wpAny _ _ (field (.ref it) 0>>=_) _ _ _;refine wX (wpAny_field g1 d1 (x:=.ref l) rfl ?_);show wpAny _ _ (if(Value.ref l == Value.none)=true then _ else _) _ _ _;rw[if_neg (λz=>uX z:¬((Value.ref l == Value.none)=true))];show wpAny _ _ (field (.ref it) 1>>=_) _ _ _;refine wX (wpAny_field g1 d1 (x:=.int i 0) rfl ?_);show wpAny _ _ (seqItems? (.ref l)>>=_) _ _ _;refine wX (wpAny_seqItems g2 d2 ?_);simp only[hv,Int.toNat_natCast];refine wX (wpAny_rule (wX (wpAny_setField g1 d1 (by simp) ?_)));show wpAny _ _ (newExc (.type "StopIteration") []>>=_) _ _ _;refine wX ?_;simp only[newTuple,newExc];refine wX (wpAny_newObj_type ?_ (by size_fits));refine wX (m:=firstArgMember _ _) (wpAny_of_eq (a:=Value.none) (by first|(simp only[firstArgMember];rfl)|rfl) ?_);refine wpAny_newObj_type ?_ (by size_fits);simp only[raiseNew];refine wX (wpAny_handled ?_);first|rw[hA]|rw[show A.in1.handled=none from hA]
 exact wX (wY (wpAny_throw (k _ _ (((vW ..).extBut.push _).push _) ⟨_,vY _ rfl,rfl⟩)))
end
def Bo:Bool->Heap->Addr->Addr->Nat->Prop
 |true,h,it,a,i=>h.IsListIter it a i
 |false,h,it,a,i=>h.IsTupleIter it a i
def zA:Bool->Heap->Addr->Array Value->Prop
 |true,h,a,items=>h.IsList a items
 |false,h,a,items=>h.IsTuple a items
def Aj (k:Bool)(K:Frag)(H:Hp)(a:Addr)(xs:List V):Prop:=match k with|true=>iA K H a xs|false=>iZ K H a xs
theorem Bo.ob (st:Bo k h it a i):∃o,h.get? it=some o/\∀v,o.data≠.cell v:=by
 cases k<;>(obtain⟨o,g,_,d⟩:=st;exact⟨o,g,λv z=>by rw[d]at z;cases z⟩)
theorem Bo.upon (st:Bo k h it a i)(g:∀o,h.get? it=some o->h'.get? it=some o):Bo k h' it a i:=by
 cases k<;>(obtain⟨o,e,r⟩:=st;exact⟨o,g o e,r⟩)
theorem zA.upon (st:zA k h a items)(g:∀o,h.get? a=some o->h'.get? a=some o):zA k h' a items:=by
 cases k<;>(obtain⟨o,e,r⟩:=st;exact⟨o,g o e,r⟩)
theorem zA.lt (st:zA k h a items):a<h.objs.size:=by
 cases k<;>(obtain⟨o,e,r⟩:=st;exact vX e)
theorem Aj.same {k:Bool}{K:Frag}{H H':Hp}{a:Addr}{xs:List V}(h:Aj k K H a xs)(e:aU H H'):Aj k K H' a xs:=by
 cases k
 ·exact be e h
 ·exact e.seq h
theorem Aj.vals (I:Inv X ae σ H s)(h:Aj k X.K H a xs):∃its:List Value,aT xs its/\zA k s.heap a its.toArray/\xs.length<=sizeLine:=by
 cases k
 ·exact I.tuple h
 ·obtain⟨its,r,p,z⟩:=I.list h;exact⟨its,r,p.isList,z⟩
theorem Aj.inj (I:Inv X ae σ H s)(h:Aj k X.K H a xs)(h':Aj k X.K H a ys):xs=ys:=by
 cases k
 ·exact I.tuple_inj h h'
 ·exact I.list_inj h h'
section
variable {prog:Program}{w:World}{A:Around}{E:Value->Shared->Prop}{s:Shared}
theorem Db (st:Bo k s.heap it l i)(ht:zA k s.heap l items)(hv:items[i]? = some v)
  (q:∀h',Bo k h' it l (i+1)->Heap.SameBut it s.heap h'->Q v { s with heap:=h' }):wpAny (model prog w) A (Builtin.SmallTypes.nextOf (.ref it)) Q E s:=by
 cases k
 ·exact Ai st ht hv q
 ·exact wpAny_nextOf_list_item st ht hv q
theorem xQ (hA:A.handled=none)(st:Bo k s.heap it l i)(ht:zA k s.heap l items)(hv:items[i]? = none)
  (q:∀h' x,Heap.ExtBut it s.heap h'->(∃o,h'.get? x=some o/\o.cls=.type "StopIteration")->E (.ref x) { s with heap:=h' }):wpAny (model prog w) A (Builtin.SmallTypes.nextOf (.ref it)) Q E s:=by
 cases k
 ·exact CZ hA st ht hv q
 ·exact wpAny_nextOf_list_end hA st ht hv q
end
noncomputable def ML (k:Bool)(l:Addr):Obj:={ cls:=.type (if k=true then "list_iterator" else "tuple_iterator"),data:=.fields #[.ref l,.int 0 0] }
theorem vq (ht:zA k s.heap l items)
  (q:Q (.ref s.heap.objs.size) { s with heap:=s.heap.push (ML k l) }):wpAny (model prog w) A (pyIter (.ref l)) Q E s:=by
 cases k
 ·exact wpAny_pyIter_tuple ht q
 ·exact wpAny_pyIter_list ht q
theorem zA.push (st:zA k h a items)(o:Obj):zA k (h.push o) a items:=st.upon λ_ e=>vZ _ e
theorem pb {X:Cx}{ae:List (Addr×Obj)}{σ:St}{H:Hp}{s:Shared}{h':Heap}{t':Nat}{ch:List Addr}(I:Inv X ae σ H s)(f:∀b∈ch,mR X ae H b)(k:∀b o,b∉ch->s.heap.get? b=some o->h'.get? b=some o):Inv X ae σ H { s with heap:=h',toks:=t' }:=by
 have Lm:∀b u,H b=some u->b∉ch:=λb u e z=>by rw[(f b z).1]at e;cases e
 refine I.step (g':=s.gens) (d':=s.drawn) (ch:=ch) (λb hb=>?_) (λb o _ _ hc e _=>k b o hc e) (λb o _ _ hc e _=>⟨o.slots,k b o hc e⟩) (λ_ _ _ _ n=>n)
  (λb o hc e=>⟨o,k b o hc e⟩) (λ_ _ e=>e) (λ_ _ _ e=>e) (λ_ _ e=>e) (λm hm=>?_) (λb u e=>?_) I.bare
 ·obtain⟨_,f1,_,f3,f4,f5⟩:=f b hb;exact⟨f3,f1,f4,f5⟩
 ·obtain⟨o,es,ep,ho,r⟩:=hm;exact⟨o,es,ep,k _ o (λz=>(f _ z).2.1 rfl) ho,r⟩
 ·refine(I.hok b u e).stay (λc v hc q=>k c v ?_ q) (λ_ q=>q) (λ_ _ q=>q) λ_ _ _ q=>q;rcases hc with z|z
  ·rw[z];exact Lm b u e
  ·exact Lm c _ z
theorem KR {X:Cx}{ae:List (Addr×Obj)}{σ:St}{H:Hp}{s:Shared}{h':Heap}{t':Nat}{ch:List Addr}{a:Addr}{ob:HO}(I:Inv X ae σ H s)(f:∀b∈ch,mR X ae H b)(k:∀b o,b∉ch->s.heap.get? b=some o->h'.get? b=some o)(ha:s.heap.objs.size<=a)
  (new:ce X.prog X.w (upd H a ob) h' a ob):Inv X ae σ (upd H a ob) { s with heap:=h',toks:=t' }:=by
 have hn:H a=none:=I.hok.fresh ha;have Lm:∀b u,H b=some u->b∉ch:=λb u e z=>by rw[(f b z).1]at e;cases e
 have na:∀b o,s.heap.get? b=some o->b≠a:=λb o e=>vS (vQ (vX e) ha);refine I.step (g':=s.gens) (d':=s.drawn) (ch:=ch) (λb hb=>?_) (λb o _ _ hc e _=>k b o hc e) (λb o _ _ hc e _=>⟨o.slots,k b o hc e⟩) (λb o _ e n=>by rw[aH (na b o e)];exact n)
  (λb o hc e=>⟨o,k b o hc e⟩) (λb xs e=>by rw[aH (aV e hn)];exact e) (λb o u e=>by rw[aH (aV e hn)];exact e) (λb ps e=>by rw[aH (aV e hn)];exact e) (λm hm=>?_) (λb u e=>?_) I.bare
 ·obtain⟨_,f1,_,f3,f4,f5⟩:=f b hb;exact⟨f3,f1,f4,f5⟩
 ·obtain⟨o,es,ep,ho,r⟩:=hm;exact⟨o,es,ep,k _ o (λz=>(f _ z).2.1 rfl) ho,r⟩
 ·by_cases hb:b=a
  ·subst hb;rw[aE]at e;cases e;exact new
  ·rw[aH hb]at e;refine(I.hok b u e).stay (λc v hc q=>k c v ?_ q) (λc q=>?_) (λc xs q=>?_) λc o xs q=>?_
   ·rcases hc with z|z
    ·rw[z];exact Lm b u e
    ·exact Lm c _ z
   ·rw[aH (aV q hn)];exact q
   ·rw[aH (aV q hn)];exact q
   ·rw[aH (aV q hn)];exact q
section
variable {X:Cx}{a b e:Expr}{pos:Pos}{p:Pos}
noncomputable def SS (xs ys:List D):List D:=List.zipWith (λx y=>.tup [x,y]) xs ys
@[simp] def SU (fa fb:FE):FA:=λρ=>(fa ρ).bind λx=>(fb ρ).bind λy=>(gU x.1).bind λxs=>(gU y.1).map λys=>SS xs ys
theorem Qb {K:Frag}{B:Hp}{v:V}{d:D}{ds:List D}(h:Is K B v d)(e:gU d=some ds):∃k a vs,v=.ref a/\Aj k K B a vs/\IsL K B vs ds:=by
 cases h with
 |tup ht hl=>cases e;exact⟨false,_,_,rfl,ht,hl⟩
 |lst ht hl=>cases e;exact⟨true,_,_,rfl,ht,hl⟩
 |_=>cases e
end
noncomputable def unown1 (ρ:Env)(i:Nat):Env:=match ρ[i]? with
 |some (some (d,true))=>ρ.set i (some (d,false))
 |_=>ρ
theorem eE.unown1 {K:Frag}{B0 H0 N H:Hp}{σ:St}{ρ:Env}(s:eE K B0 H0 N H σ ρ)(i:Nat):eE K B0 H0 N H σ (unown1 ρ i):=by
 unfold DL.unown1;split
 ·rename_i d hd;obtain⟨a,ob,h1,h2,h3,h4⟩:=s.ow i d hd;have get:∀ {j:Nat}{e:D}{b:Bool},(ρ.set i (some (d,false)))[j]? = some (some (e,b))->(i=j/\e=d/\b=false)∨(i≠j/\ρ[j]? = some (some (e,b))):=λq=>by
   rcases bW q with⟨z,p⟩|⟨z,p⟩
   ·cases p;exact .inl ⟨z,rfl,rfl⟩
   ·exact .inr ⟨z,p⟩
  have o:∀c,own σ (ρ.set i (some (d,false))) c->own σ ρ c/\c≠a:=λc ⟨j,e,q1,q2⟩=>by
   rcases get q1 with⟨_,_,z⟩|⟨ne,q⟩
   ·cases z
   ·exact⟨⟨j,e,q,q2⟩,λz=>by subst z;exact ne (s.inj i j _ _ _ hd q h1 q2)⟩
  have c:aU (dY N (own σ ρ)) (dY N (own σ (ρ.set i (some (d,false))))):=eJ λb u e q=>⟨e,λz=>q (o b z).1⟩;have na:¬own σ (ρ.set i (some (d,false))) a:=λz=>(o a z).2 rfl;refine⟨s.bh,s.tb,s.ext,by rw[List.length_set];exact s.len,λj e q=>?_,λj e q=>?_,λj k b e f q q' z1 z2=>?_⟩
  ·rcases get q with⟨rfl,rfl,_⟩|⟨_,q⟩
   ·exact⟨_,h1,(h4.mono c).is (by rw[cO na];exact h2)⟩
   ·obtain⟨v,k1,k2⟩:=s.sh j e q;exact⟨v,k1,k2.mono c⟩
  ·rcases get q with⟨_,_,z⟩|⟨_,q⟩
   ·cases z
   ·obtain⟨a',o',k1,k2,k3,k4⟩:=s.ow j e q;exact⟨a',o',k1,k2,k3,k4.mono c⟩
  ·rcases get q with⟨_,_,z⟩|⟨_,q⟩
   ·cases z
   ·rcases get q' with⟨_,_,z⟩|⟨_,q'⟩
    ·cases z
    ·exact s.inj j k b e f q q' z1 z2
 ·exact s
@[simp] noncomputable def Qc (is:List Nat)(g:FS):FS:=λρ=>g (is.foldl unown1 ρ)
theorem eE.unowns {K:Frag}{B0 H0 N H:Hp}{σ:St}:∀(is:List Nat){ρ:Env},eE K B0 H0 N H σ ρ->eE K B0 H0 N H σ (is.foldl DL.unown1 ρ)
 |[],_,s=>s
 |i::is,_,s=>eE.unowns is (s.unown1 i)
theorem MN {K:Frag}{is:List Nat}{g:FS}{E:Ends}{σ:St}{H:Hp}(q:nV K (Qc is g) E σ H):nV K g E σ H:=by
 obtain⟨B0,H0,ρ,r,⟨N,s⟩,e,p⟩:=q;exact⟨B0,H0,_,r,⟨N,s.unowns is⟩,e,p⟩
theorem KS {X:Cx}{st:Stmt}{g:FS}(is:List Nat)(h:JS X st g):JS X st (Qc is g):=PS.to h λ_ _ _ q=>MN q
@[simp] noncomputable def KU:FS:=λρ=>some (.ct ρ)
@[simp] noncomputable def SV:FS:=λρ=>some (.bk ρ)
@[simp] noncomputable def SW:FS:=λ_=>none
section
variable {X:Cx}{pos:Pos}
theorem Iy:JS X (.Continue pos) KU:=PS.to wW λE σ H q=>by
 obtain⟨B0,H0,ρ,r,s,e,p⟩:=q;cases e
 exact p σ H s
end
inductive CRows (K:Frag)(P:Params):List DictEntry->List (Str×D)->Prop where
 |nil:CRows K P [] []
 |tup {x:Str}{t:Tok}{h:Int}{a:Addr}{its:Array Value}{n:Nat}{oC:Array (Option Value)}{ds:List D}{r:List DictEntry}{aI:List (Str×D)}(hh:h=PyData.keyHash P x)
   (l:K.lookup a=some ⟨.type "tuple",none,.seq its n,oC⟩) (f:(decide (its.size<=1000) && jz its.toList ds)=true) (tl:CRows K P r aI):CRows K P (⟨h,.str x t,.ref a⟩::r) ((x,.tup ds)::aI)
 |flat {x:Str}{t:Tok}{h:Int}{u:Value}{d:D}{r:List DictEntry}{aI:List (Str×D)}(hh:h=PyData.keyHash P x) (f:vp u d=true) (tl:CRows K P r aI):CRows K P (⟨h,.str x t,u⟩::r) ((x,d)::aI)
theorem CRows.lit {K:Frag}{P:Params}:∀ {es:List DictEntry}{aI:List (Str×D)},CRows K P es aI->PySem.W.KeysLit P es
 |_,_,.nil=>trivial
 |_,_,.tup hh _ _ tl=>⟨⟨_,_,rfl,hh⟩,tl.lit⟩
 |_,_,.flat hh _ tl=>⟨⟨_,_,rfl,hh⟩,tl.lit⟩
theorem CRows.find {K:Frag}{P:Params}(y:Str):∀ {es:List DictEntry}{aI:List (Str×D)},CRows K P es aI->match aI.lookup y with
  |none=>es.find? (λe=>Value.isStrOf y e.key)=none
  |some d=>∃e v,es.find? (λe=>Value.isStrOf y e.key)=some e/\aX v e.val/\∀B,Is K B v d
 |_,_,.nil=>rfl
 |_,_,.tup (x:=x) (t:=t) (a:=a) (ds:=ds) hh l f tl=>by
  by_cases e:y=x
  ·subst e;rw[List.lookup_cons_self];rw[vC]at f;obtain⟨vs,r,i⟩:=j0 (K:=K) f.2;exact⟨_,.ref a,List.find?_cons_of_pos (by simp[Value.isStrOf]),rfl,λB=>.tup (.inr ⟨_,_,_,l,rfl,rfl,Nat.le_of_lt (Nat.lt_of_le_of_lt (of_decide_eq_true f.1) (by decide)),r⟩) (i B)⟩
  ·have ih:=tl.find y;rw[List.lookup_cons,beq_eq_false_iff_ne.mpr e];have nf:Value.isStrOf y (Value.str x t)=false:=by
    rw[Bool.eq_false_iff];intro z;obtain⟨t',q⟩:=Value.isStrOf_shape z;injection q with q1;exact e q1.symm
   simp only[List.find?_cons,nf];exact ih
 |_,_,.flat (x:=x) (t:=t) (u:=u) (d:=d) hh f tl=>by
  by_cases e:y=x
  ·subst e;rw[List.lookup_cons_self];obtain⟨v,r1,_⟩:=kE (K:=K) (B:=λ_=>none) f;refine⟨_,v,List.find?_cons_of_pos (by simp[Value.isStrOf]),r1,λB=>?_⟩;obtain⟨v',GQ,i'⟩:=kE (K:=K) (B:=B) f;have:v'=v:=by have z1:=r1.abs;rw[GQ.abs]at z1;exact vK z1
   subst this;exact i'
  ·have ih:=tl.find y;rw[List.lookup_cons,beq_eq_false_iff_ne.mpr e];have nf:Value.isStrOf y (Value.str x t)=false:=by
    rw[Bool.eq_false_iff];intro z;obtain⟨t',q⟩:=Value.isStrOf_shape z;injection q with q1;exact e q1.symm
   simp only[List.find?_cons,nf];exact ih
def sY (K:Frag)(P:Params)(a:Addr)(aI:List (Str×D)):Prop:=∃es n,K.lookup a=some ⟨.type "dict",none,.dict es n,#[]⟩/\CRows K P es.toList aI/\(a == sysModules)=false
theorem const_dict {K:Frag}{P:Params}{y:Str}{a:Addr}{es:Array DictEntry}{n:Nat}{aI:List (Str×D)}(e:nsIn K mainGlobals y=some (some (.ref a)))(l:K.lookup a=some ⟨.type "dict",none,.dict es n,#[]⟩)(r:CRows K P es.toList aI)(s:(a == sysModules)=false):
  ∃a,nsIn K mainGlobals y=some (some (.ref a))/\sY K P a aI:=⟨a,e,es,n,l,r,s⟩
section
variable {X:Cx}{a b e:Expr}{pos:Pos}{x:Str}{p:Pos}
theorem sY.map {ae:List (Addr×Obj)}{σ:St}{H:Hp}{s:Shared}{d:Addr}{aI:List (Str×D)}(I:Inv X ae σ H s)(h:sY X.K X.w.params d aI):∃f:Str->Option Value,s.heap.MapOf (strKind X.prog X.w) d f/\(d == sysModules)=false /\
  ∀y,match aI.lookup y with|none=>f y=none|some dd=>∃u v,f y=some u/\aX v u/\∀B,Is X.K B v dd:=by
 obtain⟨es,n,l,r,sm⟩:=h;refine⟨_,PySem.W.mapOf_K I.kIn l r.lit,sm,λy=>?_⟩;have:=r.find y;have ff:findBy Value.isStrOf es y=(es.toList.find? λe=>Value.isStrOf y e.key).map (·.val):=by
  unfold findBy;obtain⟨es⟩:=es;rw[List.find?_toArray]
 cases hl:aI.lookup y with
 |none=>rw[hl]at this;dsimp only at this ⊢;rw[ff,this];rfl
 |some dd=>
  rw[hl]at this;obtain⟨en,v,e1,e2,e3⟩:=this;exact⟨en.val,v,by rw[ff,e1];rfl,e2,e3⟩
@[simp] noncomputable def WE (aI:List (Str×D)):D->OB
 |.str y=>(aI.lookup y).map λd=>(d,false)
 |_=>none
@[simp] noncomputable def Zk (aI:List (Str×D)):D->OB
 |.str y=>some (.bl (aI.lookup y).isSome,false)
 |_=>none
@[simp] noncomputable def SX (aI:List (Str×D)):D->OB
 |.str y=>some (.bl (!(aI.lookup y).isSome),false)
 |_=>none
@[simp] noncomputable def j3:List D->OB
 |[.lst ds]=>some (.lst ds,true)
 |[.tup ds]=>some (.lst ds,true)
 |_=>none
@[simp] noncomputable def gX:List D->OB
 |[.lst ds]=>some (.tup ds,false)
 |[.tup ds]=>some (.tup ds,false)
 |_=>none
theorem MO:bQ X (.type "list") (CO X.K j3):=by
 refine bQ.to uH λxs H Q q=>?_;obtain⟨B,ds,d,bb,sB,i,ee,q⟩:=q;cases i with
 |nil=>simp[j3]at ee
 |cons i1 i2=>
  cases i2 with
  |cons _ _=>cases i1<;>simp[j3]at ee
  |nil=>
   cases i1<;>try (simp[j3]at ee;done)
   ·rename_i l0 vs es h hl;simp only[j3]at ee;cases ee
    refine⟨_,_,rfl,.inr (be sB h),λl hp=>?_⟩;have xt:=Ext.laid (o:=.lst vs) sB hp;exact q _ _ _ xt (.lst (iA.of aE) (hl.mono xt.bn)) λ_=>⟨_,_,_,rfl,rfl,hp,aE,hl.mono xt.bn⟩
   ·rename_i l0 vs es h hl;simp only[j3]at ee;cases ee
    refine⟨_,_,rfl,.inl (sB.seq h),λl hp=>?_⟩;have xt:=Ext.laid (o:=.lst vs) sB hp;exact q _ _ _ xt (.lst (iA.of aE) (hl.mono xt.bn)) λ_=>⟨_,_,_,rfl,rfl,hp,aE,hl.mono xt.bn⟩
theorem Iz:bQ X (.type "tuple") (CO X.K gX):=by
 refine bQ.to rZ λxs H Q q=>?_;obtain⟨B,ds,d,bb,sB,i,ee,q⟩:=q;cases i with
 |nil=>simp[gX]at ee
 |cons i1 i2=>
  cases i2 with
  |cons _ _=>cases i1<;>simp[gX]at ee
  |nil=>
   cases i1<;>try (simp[gX]at ee;done)
   ·rename_i l0 vs es h hl;simp only[gX]at ee;cases ee
    exact⟨_,_,rfl,.inr ⟨be sB h,q.one sB (.tup h hl)⟩⟩
   ·rename_i l0 vs es h hl;simp only[gX]at ee;cases ee
    refine⟨_,_,rfl,.inl ⟨sB.seq h,λl hp=>?_⟩⟩;have xt:=Ext.laid (o:=.tup vs) sB hp;exact q _ _ _ xt (.tup (iZ.of aE) (hl.mono xt.bn)) (by simp)
end
section
variable {X:Cx}{a b e:Expr}{pos:Pos}{x:Str}{p:Pos}
@[simp] def UZ (is:List Nat)(f:FE):FS:=λρ=>(f ρ).bind λx=>(gU x.1).bind λds=>(gh is ds (if bx ds=true then ρ else unown ρ)).map .nx
@[simp] def Dc (i:Nat)(fk fv:FE):FS:=λρ=>match ρ[i]? with
 |some (some (.lst ds,true))=>(fv ρ).bind λv=>(fk ρ).bind λk=>match k.1 with
  |.int j=>(CG ds.length j).bind λn=>if bu v.1=true then some (.nx (ρ.set i (some (.lst (ds.set n v.1),true))))else none
  |_=>none
 |_=>none
theorem Fc (hv:JE X e fv)(hk:JE X k fk)(hN:X.N[i]? = some y:=by rfl)(AR:En X.env.scope y:=by first|exact Or.inl rfl|exact Or.inr (Or.inl rfl)|exact Or.inr (Or.inr rfl))(hd:(y == ("__debug__" : Str))=false:=by decide)
  (jv:(y == ("__classdict__" : Str))=false:=by decide)
  (ha:∀v,assign (.Subscript (.Name y py) k pt) X.env v=(do
   let ov ←holding [v] (eval (.Name y py) X.env)
   let iv ←holding [v,ov] (eval k X.env)
   standAt pt
   holding [v,ov,iv] (setItem ov iv v)
   release [v,ov,iv] []):=by intro _;rfl)
  (hs:swapsWithSole [.Subscript (.Name y py) k pt] e pos.line X.env=pure false:=by rfl) (hw:swappedStores [.Subscript (.Name y py) k pt] e X.env=pure none:=by rfl)
  (h1:(assignEach [.Subscript (.Name y py) k pt] X.env).map (·.2)=[assign (.Subscript (.Name y py) k pt) X.env]:=by rfl):JS X (.Assign [.Subscript (.Name y py) k pt] e pos) (Dc i fk fv):=by
 refine PS.to (LR hv (LQ (lw hN AR hd jv) hk Ey ha) hs hw h1) λE σ H q=>?_;obtain⟨B0,H0,ρ,r,⟨N,s⟩,ee,p⟩:=q;unfold Dc at ee;split at ee
 ·rename_i ds ei;obtain⟨v,ev,ee⟩:=oX ee;obtain⟨kk,ek,ee⟩:=oX ee;obtain⟨kd,kb⟩:=kk;cases kd with
  |int j=>
   dsimp only at ee;obtain⟨n,en,ee⟩:=oX ee;split at ee
   ·rename_i hn;cases ee
    refine⟨N,ρ,v.1,v.2,s.ext.nh,s.rep,ev,λv1 H1 N1 x1 i1 _=>?_⟩;have s1:=s.grow x1;obtain⟨l,vs,JV,z,h1,h2,h3,h4⟩:=s1.owL i _ ei;cases z
    refine⟨_,h1,N1,ρ,_,_,s1.ext.nh,s1.rep,ek,λkv H2 N2 x2 i2 _=>?_⟩;cases i2
    have s2:=s1.grow x2;obtain⟨l',RT,JV,z,k1,k2,k3,k4⟩:=s2.owL i _ ei;cases z
    rw[h1]at k1;cases k1;exact⟨l,RT,j,n,rfl,rfl,s2.ext.nh _ _ k2,by rw[k4.length];exact en,p σ _ ⟨_,s2.write ei h1 (IsL.set (s2.flat (i1.mono x2.bn) hn) n k4)⟩⟩
   ·cases ee
  |_=>cases ee
 ·cases ee
@[simp] noncomputable def WG (i:Nat)(g:List D->Option (List D)):FS:=λρ=>match ρ[i]? with
 |some (some (.lst ds,true))=>(g ds).map λes=>.nx (ρ.set i (some (.lst es,true)))
 |_=>none
@[simp] def WH (i:Nat)(f:FE):FS:=λρ=>match ρ[i]? with
 |some (some (.lst ds,true))=>(f ρ).bind λx=>match x.1 with
  |.lst es=>if x.2=true/\bx es=true/\ds.length+es.length<=sizeLine then some (.nx (ρ.set i (some (.lst (ds++es),true))))else none
  |_=>none
 |_=>none
@[simp] noncomputable def Ak:List D->OB
 |[.int i]=>some (.int i,false)
 |[.bl b]=>some (.int (if b then 1 else 0),false)
 |_=>none
theorem Qd:bQ X (.type "int") (CO X.K Ak):=by
 refine bQ.to CC λxs H Q q=>?_;obtain⟨B,ds,d,bb,sB,i,ee,q⟩:=q;cases i with
 |nil=>simp[Ak]at ee
 |cons i1 i2=>
  cases i2 with
  |cons _ _=>cases i1<;>simp[Ak]at ee
  |nil=>
   cases i1<;>try (simp[Ak]at ee;done)
   ·simp only[Ak]at ee;cases ee
    exact .inr ⟨_,rfl,q.one sB (.int _)⟩
   ·simp only[Ak]at ee;cases ee
    exact .inl ⟨_,rfl,q.one sB (.int _)⟩
end
open AutoSeq1 (wpAny_loadPart')
set_option maxRecDepth 100000
noncomputable def Va (k:Bool):String:=if k=true then "list" else "tuple"
theorem xR (k:Bool)(l:Addr)(items:Array Value)(n:Nat)(NJ:Option Addr)(sl:Array (Option Value)):
  Meets (Builtin.«enumerate.__new__» ⟨[.type "enumerate",.ref l],[]⟩) (λ_ R s=>s.heap.get? l=some { cls:=.type (Va k),dict:=NJ,data:=.seq items n,slots:=sl } /\
   R (.ok (.ret (.ref (s.heap.push (ML k l)).objs.size))) { s with heap:=(s.heap.push (ML k l)).push { cls:=.type "enumerate",data:=.fields #[.none,.bool false,.ref s.heap.objs.size,rawInt 0,.none,.none] } }) :=
 .of_wp λprog w A R s hs=>by
  obtain⟨hp,g,d,tk,os⟩:=s;obtain⟨hl,hs⟩:=hs;have zu:=sub_enumerate;have hL:zA k (Shared.heap ⟨hp,g,d,tk,os⟩) l items:=by cases k<;>exact⟨_,hl,rfl,n,rfl⟩
  wp_walk using wpAny_loadPart' hl;refine wpAny_stack_any λst=>wY ?_;split
  ·rename_i c _ _ _ _ _;cases (c == Value.type "enumerate")
   ·wp_walk using wpAny_loadPart' hl,vq hL;exact⟨_,rfl,hs⟩
   ·wp_walk using wpAny_loadPart' hl,vq hL;exact⟨_,rfl,hs⟩
  ·wp_walk using wpAny_loadPart' hl,vq hL;exact⟨_,rfl,hs⟩
section
variable {prog:Program}{w:World}{A:Around}{E:Value->Shared->Prop}{s:Shared}
theorem Fd (hL:zA k s.heap l items)
  (q:∀h',IsEnum h' (s.heap.objs.size+1) s.heap.objs.size 0 .none->Bo k h' s.heap.objs.size l 0->(∀b o,s.heap.get? b=some o->h'.get? b=some o)->Q (.ref (s.heap.objs.size+1)) { s with heap:=h' }):
  wpAny (model prog w) A (call (.type "enumerate") [.ref l]) Q E s:=by
 have hh:∃(NJ:Option Addr)(sl:Array (Option Value))(n:Nat),s.heap.get? l=some { cls:=.type (Va k),dict:=NJ,data:=.seq items n,slots:=sl }:=by
  cases k<;>(obtain⟨⟨c,NJ,dt,sl⟩,hl,hc,n,hd⟩:=hL;dsimp only at hc hd;subst hc;subst hd;exact⟨NJ,sl,n,hl⟩)
 obtain⟨NJ,sl,n,hl⟩:=hh;refine callType_new PySem.F.called_enumerate (by decide) (PySem.F.typeCall_enumerate_1 _) (PySem.F.newCall_enumerate_1 _) (λobj=>PySem.F.args_object_init_2 obj _) PySem.F.entry_enumerate_new (xR k l items n NJ sl) ⟨hl,?_⟩;have n1:(s.heap.push (ML k l)).objs.size=s.heap.objs.size+1:=Heap.size_push ..;have g2:((s.heap.push (ML k l)).push { cls:=.type "enumerate",data:=.fields #[.none,.bool false,.ref s.heap.objs.size,rawInt 0,.none,.none] }).get? (s.heap.push (ML k l)).objs.size=some _:=vY _ rfl;have g1:((s.heap.push (ML k l)).push { cls:=.type "enumerate",data:=.fields #[.none,.bool false,.ref s.heap.objs.size,rawInt 0,.none,.none] }).get? s.heap.objs.size=some _:=vZ _ (vY _ (by cases k<;>rfl))
 rw[n1]at g2;show _/\_;rw[n1];refine⟨⟨_,g2,rfl⟩,q _ g2 ?_ λb o e=>vZ _ (vZ _ e)⟩;cases k<;>exact⟨_,g1,rfl,rfl⟩
theorem MP (hA:A.handled=none)(it l:Addr)(nQ:l≠it)(items:Array Value):Draws prog w A it [it,l] items.size (λi v=>items[i]? = some v) (λi h=>Bo k h it l i/\zA k h l items) where
 live:=λi h st=>let ⟨o,e,_⟩:=st.1.ob;⟨o,e⟩
 frame:=λi h h' st kk=>⟨st.1.upon λo e=>kk it (by simp) o e,st.2.upon λo e=>kk l (by simp) o e⟩
 item:=λi s Q E hi st q=>Db st.1 st.2 (v:=items[i]) (by simp[hi]) λh' lO sb=>q _ h' s.toks (by simp[hi]) ⟨lO,st.2.upon λo e=>sb.extBut _ _ nQ e⟩ sb
 done:=λs Q E st q=>xQ hA st.1 st.2 (by simp) q
theorem MQ (hA:A.handled=none)(it l:Addr)(items:Array Value)(n:Nat)(hn:items[n]? = none):Draws prog w A it [it,l] n (λ_ _=>True) (λi h=>(Bo k h it l i/\zA k h l items)/\i=n) where
 live:=λi h st=>let ⟨o,e,_⟩:=st.1.1.ob;⟨o,e⟩
 frame:=λi h h' st kk=>⟨⟨st.1.1.upon λo e=>kk it (by simp) o e,st.1.2.upon λo e=>kk l (by simp) o e⟩,st.2⟩
 item:=λi s Q E hi st q=>absurd st.2 (vS hi)
 done:=λs Q E st q=>xQ hA st.1.1 st.1.2 hn q
end
noncomputable def SY (K:Frag)(k:Bool)(a:Addr):It :=
  ⟨λi H=>∃xs x,Aj k K H a xs/\xs[i]? = some x,
   λi H v H'=>∃T x,v=.ref T/\H T=none/\H'=upd H T (.tup [.int i,x])/\∀xs,Aj k K H a xs->xs[i]? = some x,
   λi H=>∃xs,Aj k K H a xs/\xs.length<=i⟩
theorem De {P:Program}{w:World}{K:Frag}{es:List Expr}{kt:Nat}{pt:Pos}{k:Bool}{a e it:Addr}(TV:e≠it)(XH:a≠e)(XI:a≠it):
  Turn P w K (.Tuple es kt pt) (SY K k a) [e,it] e (λi h=>(∃OD,IsEnum h e it i OD)/\Bo k h it a i) where
 mem:=by simp
 obj:=λi h st b hb=>by
  obtain⟨⟨OD,he⟩,t1⟩:=st;simp at hb;rcases hb with rfl|rfl
  ·exact⟨_,he,λv z=>by cases z⟩
  ·exact t1.ob
 keep:=λi h h' st kk=>by
  obtain⟨⟨OD,he⟩,t1⟩:=st;exact⟨⟨OD,kk e (by simp) _ he⟩,t1.upon λo q=>kk it (by simp) o q⟩
 item:=by
  intro X hP hw hK hc i ae s σ H E I hf st hg;subst hP hw hK;obtain⟨⟨OD,he⟩,t1⟩:=st;obtain⟨xs,x,q1,hx⟩:=hg;obtain⟨its,r1,p1,z1⟩:=q1.vals I;obtain⟨u,hu,ru⟩:=r1.get hx;have fresh:H s.heap.objs.size=none:=I.hok.fresh (vT _);have XJ:i<its.toArray.size:=by rw[vH];exact(vV hu).1
  have El:e≠s.heap.objs.size:=vS (vX he);have RZ:it≠s.heap.objs.size:=by obtain⟨o,q,_⟩:=t1.ob;exact vS (vX q)
  refine wpAny_pyNext_enum_itemD (MP (A:=X.A.in1) (I.ok.hd hc) it a XI its.toArray) he ⟨t1,p1⟩ XJ TV (by simp[TV,XH.symm]) λv h' tk hv ho lO hT hsz hk=>?_;have ev:v=u:=by
   have VC:its[i]? = some v:=by simpa using hv
   rw[hu]at VC;exact(vK VC).symm
  subst ev;refine⟨_,rfl,wpAny_letOwnedTupleGo_enum (s:={ s with heap:=h',toks:=tk+1 }) ho λh2 OE s2=>?_⟩;have OF:Heap.SameBut e h' h2:=s2;have kk:∀b o,b∉[e,it]->s.heap.get? b=some o->h2.get? b=some o:=λb o hb q=>OF.extBut _ _ (λz=>hb (by simp[z])) (hk b o (λz=>hb (by simp[z])) (λz=>hb (by simp[z])) q);have new:ce X.prog X.w (upd H s.heap.objs.size (.tup [.int i,x])) h2 s.heap.objs.size (.tup [.int i,x]):=⟨by show 2<=sizeLine;decide,[.int i tk,v],.cons ⟨tk,rfl⟩ (.cons ru .nil),⟨_,OF.extBut _ _ El.symm hT,rfl,_,rfl⟩⟩;refine⟨.ref s.heap.objs.size,upd H s.heap.objs.size (.tup [.int i,x]),KR (s:=s) (t':=tk+1) I hf kk (vT _) new,rfl,⟨_,x,rfl,fresh,rfl,λzs hq=>by rw[Aj.inj I hq q1];exact hx⟩,?_,λb hb=>?_⟩
  ·exact⟨⟨_,by have:=OE;rw[show((i:Int)+1)=((i+1:Nat):Int) by omega]at this;exact this⟩,lO.1.upon λo q=>OF.extBut _ _ TV.symm q⟩
  ·have nQ:b≠s.heap.objs.size:=by
    simp at hb;rcases hb with rfl|rfl
    ·exact El
    ·exact RZ
   rw[aH nQ];exact(hf b hb).1
 done:=by
  intro X hP hw hK hc i ae s σ H E I hf st hg;subst hP hw hK;obtain⟨⟨OD,he⟩,t1⟩:=st;obtain⟨xs,q1,hl⟩:=hg;obtain⟨its,r1,p1,z1⟩:=q1.vals I;have n1:=r1.length;refine wpAny_pyNext_enum_endD (MQ (A:=X.A.in1) (I.ok.hd hc) it a its.toArray i (by simp;omega)) he ⟨⟨t1,p1⟩,rfl⟩ λh' hk=>⟨rfl,?_⟩;exact pb (t':=s.toks) I hf λb o hb q=>hk b o (λz=>hb (by simp[z])) q
 self:=λ_ _ _ _ _ st h=>let ⟨⟨_,he⟩,_⟩:=st;wpAny_pyIter_enum he h
section
variable {X:Cx}{a b e:Expr}{pos:Pos}{p:Pos}
theorem xS:bootBuiltins "enumerate" = some (.type "enumerate"):=by decide +kernel
noncomputable def sZ (ds:List D):List D:=ds.mapIdx λi d=>.tup [.int i,d]
@[simp] def Fe (fa:FE):FA:=λρ=>(fa ρ).bind λx=>(gU x.1).map sZ
theorem IA {K:Frag}{N:Hp}{k:Bool}{l:Addr}{vs:List V}{ds:List D}(h1:Aj k K N l vs)(i1:IsL K N vs ds):oH K (SY K k l) N (sZ ds):=by
 intro i H' sm;have n1:=i1.length;refine⟨λd ed=>?_,λhl=>⟨vs,h1.same sm,?_⟩⟩
 ·unfold sZ at ed;rw[List.getElem?_mapIdx]at ed;obtain⟨x,e1,rfl⟩:=oY ed;obtain⟨v,ev,iv⟩:=i1.get e1;refine⟨⟨vs,v,h1.same sm,ev⟩,λr H2 hy=>?_⟩;obtain⟨T,v',rfl,hT,rfl,f1⟩:=hy;have e3:=f1 vs (h1.same sm);rw[ev]at e3;cases e3;have xt:=Ext.laid (o:=.tup [.int i,v]) sm hT;exact⟨_,xt,.tup (iZ.of aE) (.cons (.int _) (.cons (iv.mono xt.bn) .nil))⟩
 ·unfold sZ at hl;rw[List.length_mapIdx]at hl;omega
theorem IB {es:List Expr}{kt:Nat}{pt:Pos}{fa:FE}(hm:X.mg "enumerate" = none)(ha:JE X a fa)(hg:Gl X "enumerate":=by rfl)(hs:starEach [a] X.env=[(false,eval a X.env)]:=by rfl):
  JI X (.Tuple es kt pt) (.Call (.Name "enumerate" p) [a] [] pos) (Fe fa):=by
 intro ae s σ H R I q;refine Call_ (lx I hg hm xS (PyProof.Rows.callWith_type1 (cx (ah ha ao hs pos ae s σ H (λvs H1=>∃(k:Bool)(l:Addr)(us:List V),vs=[.ref l]/\Aj k X.K H1 l us/\R (SY X.K k l) H1) I ?_) λus s1 ⟨vs,H1,I1,r1,q1⟩=>?_) hs rfl))
 ·obtain⟨B,ρ,ds,sB,r,ee,q⟩:=q;obtain⟨x1,ex,ee⟩:=oX ee;obtain⟨xs,XM,ee⟩:=oY ee;subst ee;refine⟨B,ρ,[x1.1],sB,r,by simp[af,aj,ex],λvs H1 N1 xt i1=>?_⟩;cases i1 with
  |cons j1 j2=>
   cases j2
   obtain⟨k1,l1,us,rfl,s1,m1⟩:=Qb j1 XM;exact⟨k1,l1,us,rfl,s1.same xt.nh,q _ H1 N1 xt (IA s1 m1)⟩
 ·obtain⟨k,l,ws,rfl,h1,q⟩:=q1;obtain⟨u1,rfl,XN⟩:=r1.one;cases XN
  obtain⟨its,v1,p1,z1⟩:=h1.vals I1;have RJ:=p1.lt;refine Fd p1 λh' c1 c2 ck=>?_;refine wpAny_pyIter_enum c1 ⟨s1.heap.objs.size+1,[s1.heap.objs.size+1,s1.heap.objs.size],_,_,H1,rfl,I1.kept (t':=s1.toks) ck,
   De (Nat.succ_ne_self _) (vS (Nat.lt_succ_of_lt RJ)) (vS RJ),⟨⟨_,c1⟩,c2⟩,λb hb=>?_,q⟩
  have GS:s1.heap.objs.size<=b:=by
   simp at hb;rcases hb with rfl|rfl
   ·exact Nat.le_succ _
   ·exact vT _
  exact I1.fpOk GS (I1.hok.fresh GS)
end
end DL
namespace DL
open PySem PySem.Spec PyProof.Rows
def j4 (xs:Array Nat):Prop:=xs.toList.Pairwise (· < ·)
theorem j4.lt {xs:Array Nat}(h:j4 xs){i j a b:Nat}(hi:xs[i]? = some a)(hj:xs[j]? = some b)(l:i<j):a<b:=by
 obtain⟨h1,e1⟩:=Array.getElem?_eq_some_iff.mp hi;obtain⟨h2,e2⟩:=Array.getElem?_eq_some_iff.mp hj;have:=List.pairwise_iff_getElem.mp h i j (by simpa using h1) (by simpa using h2) l;simp only[Array.getElem_toList]at this;rw[←e1,←e2];exact this
theorem pK {xs:Array Nat}(h:j4 xs)(j:Nat):∀(fuel lo hi:Nat),hi<=xs.size->lo<=hi->hi - lo<=fuel->(∀i a,i<lo->xs[i]? = some a->a<j)->(∀i a,hi<=i->xs[i]? = some a->j<=a) ->
  (SetTable.below.go xs j fuel lo hi<=xs.size/\(∀i a,i<SetTable.below.go xs j fuel lo hi->xs[i]? = some a->a<j)/\∀i a,SetTable.below.go xs j fuel lo hi<=i->xs[i]? = some a->j<=a)
 |0,lo,hi,h1,h2,h3,h4,h5=>by
  have:lo=hi:=by omega
  subst this;exact⟨h1,h4,h5⟩
 |fuel+1,lo,hi,h1,h2,h3,h4,h5=>by
  unfold SetTable.below.go;by_cases hl:lo<hi
  ·rw[if_pos hl];have hm:(lo+hi) / 2<xs.size:=by omega
   have em:xs[(lo+hi) / 2]? = some (xs.getD ((lo+hi) / 2) j):=by rw[Array.getD_eq_getD_getElem?,Array.getElem?_eq_getElem hm];rfl
   show(if xs.getD ((lo+hi) / 2) j<j then _ else _)<=_/\_;by_cases hc:xs.getD ((lo+hi) / 2) j<j
   ·rw[if_pos hc];refine pK h j fuel _ _ h1 (by omega) (by omega) (λi a hia ha=>?_) h5;by_cases hx:i=(lo+hi) / 2
    ·rw[hx,em]at ha;cases ha;exact hc
    ·exact Nat.lt_trans (h.lt ha em (by omega)) hc
   ·rw[if_neg hc];refine pK h j fuel _ _ (by omega) (by omega) (by omega) h4 λi a hia ha=>?_;by_cases hx:i=(lo+hi) / 2
    ·rw[hx,em]at ha;cases ha;omega
    ·have:=h.lt em ha (by omega);omega
  ·rw[if_neg hl];have:lo=hi:=by omega
   subst this;exact⟨h1,h4,h5⟩
theorem pL {xs:Array Nat}(h:j4 xs)(j:Nat):SetTable.below xs j<=xs.size/\(∀i a,i<SetTable.below xs j->xs[i]? = some a->a<j)/\∀i a,SetTable.below xs j<=i->xs[i]? = some a->j<=a :=
 pK h j xs.size 0 xs.size (vT _) (uN _) (by omega) (λ_ _ h=>absurd h (Nat.not_lt_zero _)) λi a h1 h2=>by
  have:=(Array.getElem?_eq_some_iff.mp h2).1;omega
theorem Al {xs:Array Nat}(h:j4 xs){i a:Nat}(e:xs[i]? = some a):SetTable.below xs (a+1)=i+1:=by
 obtain⟨h1,h2,h3⟩:=pL h (a+1);have hi:=(Array.getElem?_eq_some_iff.mp e).1;by_cases c:SetTable.below xs (a+1)<i+1
 ·have:=h3 i a (by omega) e;omega
 ·by_cases c2:i+1<SetTable.below xs (a+1)
  ·obtain⟨b,hb⟩:∃b,xs[i+1]? = some b:=⟨_,Array.getElem?_eq_getElem (by omega)⟩;have:=h2 (i+1) b c2 hb;have:=h.lt e hb (by omega);omega
  ·omega
theorem Am {xs:Array Nat}(h:j4 xs):SetTable.below xs 0=0:=by
 obtain⟨h1,h2,_⟩:=pL h 0;by_cases c:0<SetTable.below xs 0
 ·obtain⟨b,hb⟩:∃b,xs[0]? = some b:=⟨_,Array.getElem?_eq_getElem (by omega)⟩;exact absurd (h2 0 b c hb) (Nat.not_lt_zero _)
 ·omega
theorem Ff {xs:Array Nat}(h:j4 xs){j:Nat}(hj:xs[SetTable.below xs j]? ≠ some j):j4 (SetTable.insertAt xs (SetTable.below xs j) j):=by
 obtain⟨h1,h2,h3⟩:=pL h j;have e:(SetTable.insertAt xs (SetTable.below xs j) j).toList=xs.toList.take (SetTable.below xs j)++j::xs.toList.drop (SetTable.below xs j):=by
  unfold SetTable.insertAt;simp[Array.toList_extract,List.extract];exact List.take_of_length_le (by simp)
 unfold j4;rw[e,List.pairwise_append,List.pairwise_cons];have lo:∀a∈xs.toList.take (SetTable.below xs j),a<j:=λa ha=>by
  obtain⟨i,hi⟩:=List.mem_iff_getElem?.mp ha;rw[List.getElem?_take]at hi;split at hi
  ·rename_i hl;exact h2 i a hl (by simpa using hi)
  ·cases hi
 have up:∀a∈xs.toList.drop (SetTable.below xs j),j<a:=λa ha=>by
  obtain⟨i,hi⟩:=List.mem_iff_getElem?.mp ha;rw[List.getElem?_drop,Array.getElem?_toList]at hi;have h4:=h3 _ a (by omega) hi;rcases Nat.lt_or_eq_of_le h4 with h5|h5
  ·exact h5
  ·subst h5;by_cases h0:i=0
   ·subst h0;exact absurd hi hj
   ·obtain⟨b,hb⟩:∃b,xs[SetTable.below xs j]? = some b:=⟨_,Array.getElem?_eq_getElem (by have:=(Array.getElem?_eq_some_iff.mp hi).1;omega)⟩;have:=h3 _ b (vT _) hb;have:=h.lt hb hi (by omega);omega
 refine⟨List.Pairwise.sublist (List.take_sublist _ _) h,⟨up,List.Pairwise.sublist (List.drop_sublist _ _) h⟩,λa ha b hb=>?_⟩;rcases vP hb with rfl|hb
 ·exact lo a ha
 ·exact Nat.lt_trans (lo a ha) (up b hb)
theorem l8 {t:SetTable}{f:Nat->Int}{h:Int}:∀(fuel:Nat)(p:SetTable.Probe)(j:Nat)(d:Option Nat),(∀d,p.dummy=some d->t.place[SetTable.below t.place d]? ≠ some d)->SetTable.probe.go t f h fuel p=some (.empty j d)->t.place[SetTable.below t.place j]? ≠ some j/\∀e,d=some e->t.place[SetTable.below t.place e]? ≠ some e
 |0,_,_,_,_,h=>by simp[SetTable.probe.go]at h
 |fuel+1,p,j,d,hd,hg=>by
  unfold SetTable.probe.go at hg;cases hs:t.slot p.j with
  |empty=>
   rw[hs]at hg;cases hg
   refine⟨λz=>?_,hd⟩;unfold SetTable.slot at hs;simp[z]at hs
  |dummy=>
   rw[hs]at hg;refine l8 fuel _ j d (λe he=>?_) hg;have:e=p.j:=by
    unfold SetTable.advance at he;split at he<;>exact(vK he).symm
   subst this;intro z;unfold SetTable.slot at hs;simp[z]at hs
  |live i=>
   rw[hs]at hg;dsimp only at hg;split at hg
   ·cases hg
   ·refine l8 fuel _ j d (λe he=>hd e ?_) hg;unfold SetTable.advance at he;split at he<;>exact he
theorem Fg {t:SetTable}{h:Int}{j:Nat}{w:Bool}(e:t.freeSlot h=some (j,w)):t.place[SetTable.below t.place j]? ≠ some j:=by
 unfold SetTable.freeSlot at e;split at e
 ·rename_i j' d hp;obtain⟨h1,h2⟩:=l8 _ _ _ _ (λd hd=>by cases hd) hp;cases e
  cases d with
  |none=>exact h1
  |some d=>exact h2 d rfl
 ·cases e
theorem j5 (n:Nat):j4 (Array.range n):=by unfold j4;rw[Array.toList_range];exact List.pairwise_lt_range
theorem Df {mask finger QP:Nat}{led pl:Bool}{NK:Array Int}{t:SetTable}{o:Array Nat}(e:SetTable.laid mask finger QP led pl NK=some (t,o)):j4 t.place:=by
 unfold SetTable.laid at e;obtain⟨ow,_,e⟩:=oX e;cases e
 unfold j4;show(List.map _ _).Pairwise _;refine List.pairwise_map.mpr ?_;refine List.Pairwise.filterMap _ (λa b h x hx y hy=>?_) List.pairwise_lt_range;obtain⟨_,_,rfl⟩:=oY hx;obtain⟨_,_,rfl⟩:=oY hy;exact h
theorem Dg (t:SetTable)(es:Array (Int×Value))(n:Nat):(relayAll t es n).2.1.led=t.led:=by
 unfold relayAll;split
 ·rename_i t' order h;unfold SetTable.relaid SetTable.laid at h;obtain⟨ow,_,h⟩:=oX h;cases h
  dsimp only;split<;>rfl
 ·rfl
theorem An (t:SetTable)(es:Array (Int×Value))(n:Nat)(h:j4 t.place):j4 (relayAll t es n).2.1.place:=by
 unfold relayAll;split
 ·rename_i t' order e;dsimp only;split
  ·exact Df e
  ·exact j5 _
 ·exact j5 _
theorem Fh (t:SetTable)(es:Array (Int×Value))(hh:Int)(x:Value)(h:j4 t.place):j4 (layNew t es hh x).2.1.place:=by
 unfold layNew;split
 ·rename_i slot wd e;dsimp only[SetTable.put,SetTable.orStandIn];repeat' (first|exact Ff h (Fg e)|exact j5 _|split)
 ·exact j5 _
theorem IC (t:SetTable)(es:Array (Int×Value))(h:Int)(x:Value):(layNew t es h x).2.1.led=t.led:=by
 unfold layNew;split
 ·dsimp only[SetTable.put,SetTable.orStandIn];repeat' (first|rfl|split)
 ·rfl
structure TabT (w:World)(es:Array (Int×Value))(t:SetTable):Prop where
 fits:t.fits es.size=true
 led:t.led = !w.params.followText "set-order"
 rise:j4 t.place
structure zT {prog:Program}{w:World}{κ:Type}[DecidableEq κ](kd:PySem.KeyKind prog w κ)(kf:Value->κ)(mk:κ->Tok->Value):Prop where
 is:∀k t,kd.is k (mk k t)=true
 of:∀ {k v},kd.is k v=true->∃t,v=mk k t
 kf:∀k t,kf (mk k t)=k
 sc:∀k t,(mk k t).scannable=true
def jc {prog:Program}{w:World}{κ:Type}[DecidableEq κ](kd:PySem.KeyKind prog w κ)(kf:Value->κ)(h:Heap)(a:Addr)(ts:List κ):Prop :=
 ∃o es ep t,h.get? a=some o/\o.ExactSet/\o.data=.set es ep t/\ElemsOf kd es.toList/\(es.toList.map (λe=>kf e.2)).Perm ts/\ts.Nodup/\ts.length<scanBound/\TabT w es t
noncomputable def j6 {κ:Type}[DecidableEq κ](ts:List κ)(x:κ):List κ:=if x∈ts then ts else ts++[x]
theorem Fi {κ:Type}[DecidableEq κ](ts:List κ)(x:κ):(j6 ts x).length<=ts.length+1:=by unfold j6;split<;>simp
section
variable {prog:Program}{w:World}{A:Around}{E:Value->Shared->Prop}{s:Shared}{κ:Type}[DecidableEq κ] {kd:PySem.KeyKind prog w κ}{kf:Value->κ}{mk:κ->Tok->Value}
theorem zT.key (K0:zT kd kf mk)(h:kd.is k v=true):kf v=k:=by obtain⟨t,rfl⟩:=K0.of h;exact K0.kf _ _
theorem tm (K0:zT kd kf mk){es:Array (Int×Value)}{ts:List κ}(El:ElemsOf kd es.toList)(hp:(es.toList.map (λe=>kf e.2)).Perm ts)(k:κ):k∈ts ↔ ∃e∈es.toList,kd.is k e.2=true:=by
 rw[←hp.mem_iff,List.mem_map];constructor
 ·rintro⟨e,he,rfl⟩;obtain⟨⟨k',hk,_⟩,_⟩:=El e he;exact⟨e,he,by rw[K0.key hk];exact hk⟩
 ·rintro⟨e,he,hk⟩;exact⟨e,he,K0.key hk⟩
theorem tp {h:Heap}{a:Addr}{o:Obj}{es:Array (Int×Value)}{ep:Nat}{t:SetTable}(ho:h.get? a=some o)(hd:o.data=.set es ep t)(Ej:Array (Int×Value))(t':SetTable):
  (h.update a (Obj.putSet Ej t')).get? a=some { o with data:=.set Ej (ep+1) t' }:=by
 have:=Heap.get?_update_self (Obj.putSet Ej t') ho (by rw[putSet_of Ej t' hd];rfl);rw[putSet_of Ej t' hd]at this;exact this
theorem pM {g:Bool->Sem Unit}(hg:∀(b:Bool)(s₁:Shared)(Q':Unit->Shared->Prop),Q' () s₁->wpAny (model prog w) A (g b) Q' E s₁)
  {a:Addr}{o:Obj}{es:Array (Int×Value)}{ep:Nat}{t:SetTable}(ho:s.heap.get? a=some o) (Hl:o.ExactSet) (hd:o.data=.set es ep t)
  {mQ:Array (Int×Value)}{t2:SetTable}{ts:List κ}(DU:ElemsOf kd mQ.toList) (NL:(mQ.toList.map (λe=>kf e.2)).Perm ts) (nd:ts.Nodup)
  (hb1:ts.length<scanBound) (XO:t2.fits mQ.size=true) (DV:t2.led = !w.params.followText "set-order") (ls:j4 t2.place) {zv:Bool}{R:Option Bool->Shared->Prop}
  (h:∀h',Heap.SameBut a s.heap h'->jc kd kf h' a ts->R (some true) { s with heap:=h' }):
  wpAny (model prog w) A (do
    storeSet a mQ t2
    if(!zv && t2.tooFull)=true then do
      g (relayAll t2 mQ (SetTable.grown mQ.size)).2.2
      storeSet a (relayAll t2 mQ (SetTable.grown mQ.size)).1 (relayAll t2 mQ (SetTable.grown mQ.size)).2.1
      pure (some true)
     else pure (some true)) R E s:=by
 have VD:mQ.size=ts.length:=by rw[←NL.length_eq,vI,vG]
 refine wX (wpAny_storeSet_of ho hd ?_ (fits_of_scanBound (by rw[VD];exact hb1)));have OG:=tp ho hd mQ t2;have QQ:=vW s.heap a (Obj.putSet mQ t2);split
 ·have hp:=relayAll_perm t2 mQ (SetTable.grown mQ.size);have NM:=relayAll_fits t2 mQ (SetTable.grown mQ.size);have GS:=Dg t2 mQ (SetTable.grown mQ.size);have TW:=An t2 mQ (SetTable.grown mQ.size) ls;generalize hRl:relayAll t2 mQ (SetTable.grown mQ.size)=Rl at hp NM GS TW ⊢;obtain⟨Sa,t3,VE⟩:=Rl;dsimp only at hp NM GS TW ⊢;have TX:ElemsOf kd Sa.toList:=DU.perm hp;have hsz:Sa.size=mQ.size:=by rw[←vG,hp.length_eq,vG]
  refine wX (hg _ _ _ ?_);refine wX (wpAny_storeSet_of OG rfl ?_ (fits_of_scanBound (by rw[hsz,VD];exact hb1)));have JN:=tp OG rfl Sa t3;exact wY (h _ (QQ.trans (vW _ a _)) ⟨_,Sa,_,t3,JN,Hl,rfl,TX,(hp.map _).trans NL,nd,hb1,NM,GS.trans DV,TW⟩)
 ·exact wY (h _ QQ ⟨_,mQ,_,t2,OG,Hl,rfl,DU,NL,nd,hb1,XO,DV,ls⟩)
theorem Ao (K0:zT kd kf mk){a:Addr}{ts:List κ}{k:κ}{tk:Tok}{Q:Bool->Shared->Prop}(hS:jc kd kf s.heap a ts)(GU:ts.length+1<scanBound)
  (h:∀b h',Heap.SameBut a s.heap h'->jc kd kf h' a (j6 ts k)->Q b { s with heap:=h' }):
  wpAny (model prog w) A (setAddHashed a (mk k tk) (kd.hash k)) Q E s:=by
 have hS0:=hS;obtain⟨o,es,ep,t,ho,Hl,hd,El,wL,nd,hb,hf,GV,ls⟩:=hS;have DO:kd.is k (mk k tk)=true:=K0.is k tk;have sz:es.size=ts.length:=by rw[←wL.length_eq,vI,vG]
 unfold setAddHashed setAddHashedIn;refine wpAny_holding (wX (wpAny_setState_of ho hd hf ?_));dsimp only;rw[byScan_of (x:=mk k tk) (K0.sc k tk) (by rw[sz];exact hb) El];simp only[↓reduceIte];unfold setAddByScan;refine wX ?_;refine wX (wpAny_rule ?_);refine wX (wpAny_setScan_of DO ho hd hf El ?_);cases hr:List.findIdx? (λe=>kd.is k e.2) es.toList with
 |some j=>
  dsimp only;obtain⟨hj,XQ,_⟩:=List.findIdx?_eq_some_iff_getElem.mp hr;have hm:k∈ts:=(tm K0 El wL k).mpr ⟨es.toList[j],List.getElem_mem hj,XQ⟩;refine wY (wY ?_);have e:j6 ts k=ts:=by unfold j6;rw[if_pos hm]
  exact h false s.heap (Heap.SameBut.refl a s.heap) (by rw[e];exact hS0)
 |none=>
  dsimp only;have hm:k∉ts:=λz=>by
   obtain⟨e,he,hp⟩:=(tm K0 El wL k).mp z;have:=List.findIdx?_eq_none_iff.mp hr e he;rw[hp]at this;exact Bool.noConfusion this
  have ea:j6 ts k=ts++[k]:=by unfold j6;rw[if_neg hm]
  have XR:∀(b:Bool){s₁:Shared}{Q':Unit->Shared->Prop},Q' () s₁->wpAny (model prog w) A (match b with|true=>rule "set.scan.the-table-gave-way" | false=>pure ()) Q' E s₁ :=
   λb s₁ Q' hq=>by cases b<;>first|exact wY hq|exact wpAny_rule hq
  have i6:=layNew_perm t es (kd.hash k) (mk k tk);have zw:=layNew_fits t es (kd.hash k) (mk k tk);have QS:=Fh t es (kd.hash k) (mk k tk) ls;have JZ:=IC t es (kd.hash k) (mk k tk);generalize hL:layNew t es (kd.hash k) (mk k tk)=L at i6 zw JZ QS ⊢;obtain⟨mQ,t1,zv,QR⟩:=L;dsimp only at i6 zw JZ QS ⊢;rw[Array.toList_push]at i6;have DU:ElemsOf kd mQ.toList:=(El.push DO (K0.sc k tk)).perm i6;have NL:(mQ.toList.map (λe=>kf e.2)).Perm (ts++[k]):=(i6.map _).trans (by rw[uW,List.map_singleton,K0.kf];exact wL.append_right _);have TY:(ts++[k]).Nodup:=by
   rw[List.nodup_append];refine⟨nd,by simp,λx hx y hy=>?_⟩;rw[List.mem_singleton]at hy;subst hy;exact λz=>hm (z ▸ hx)
  have hb1:(ts++[k]).length<scanBound:=by rw[uZ];exact GU
  refine wX (XR _ ?_);have NN:∀h',Heap.SameBut a s.heap h'->jc kd kf h' a (ts++[k])->Q true { s with heap:=h' }:=λh' hsb DW=>h true h' hsb (by rw[ea];exact DW);have gw:∀(b:Bool)(s₁:Shared)(Q':Unit->Shared->Prop),Q' () s₁->wpAny (model prog w) A (match b with|true=>rule "set.scan.the-table-gave-way" | false=>pure ()) Q' E s₁:=λb s₁ Q' hq=>by cases b<;>first|exact wY hq|exact wpAny_rule hq
  split
  ·refine wX ?_;rw[hashByValue_scannable 8 (x:=mk k tk) (K0.sc k tk)];refine wY ?_;cases plainKind (mk k tk) with
   |false=>exact pM gw ho Hl hd DU NL TY hb1 (SetTable.fits_plain_off zw) (JZ.trans GV) QS λh' hsb DW=>wY (NN h' hsb DW)
   |true=>exact pM gw ho Hl hd DU NL TY hb1 zw (JZ.trans GV) QS λh' hsb DW=>wY (NN h' hsb DW)
  ·refine wX (wY ?_);exact pM gw ho Hl hd DU NL TY hb1 zw (JZ.trans GV) QS λh' hsb DW=>wY (NN h' hsb DW)
end
section
variable {κ:Type}[DecidableEq κ] {ts:List κ}{x y:κ}
noncomputable def fH (ss:List κ):List κ:=ss.foldl j6 []
theorem Ap (h:ts.Nodup)(x:κ):(j6 ts x).Nodup:=by
 unfold j6;split
 ·exact h
 ·rename_i hm;rw[List.nodup_append];refine⟨h,by simp,λy hy z hz=>?_⟩;rw[List.mem_singleton]at hz;subst hz;exact λe=>hm (e ▸ hy)
theorem pN:y∈j6 ts x↔y∈ts∨y=x:=by
 unfold j6;split
 ·rename_i hm;exact⟨.inl,λz=>z.elim id λe=>e ▸ hm⟩
 ·simp
theorem vt (ss:List κ):∀ts:List κ,(ss.foldl j6 ts).length<=ts.length+ss.length:=by
 induction ss with
 |nil=>intro ts;simp
 |cons x r ih=>intro ts;rw[List.foldl_cons];have:=ih (j6 ts x);have:=Fi ts x;simp only[vE];omega
theorem ml (ss:List κ):(fH ss).length<=ss.length:=by have:=vt ss [];simpa [fH]using this
theorem Dh (ss:List κ)(x:κ):fH (ss++[x])=j6 (fH ss) x:=by unfold fH;rw[List.foldl_append];rfl
end
theorem StrsAre.at:∀ {vs:List Value}{ss:List Str},StrsAre vs ss->∀(i:Nat)(v:Value),vs[i]? = some v->∃x t,v=.str x t/\ss[i]? = some x
 |_,_,.nil,i,v,h=>by simp at h
 |_,_,.cons x t hr,0,v,h=>by simp at h;exact⟨x,t,h.symm,rfl⟩
 |_,_,.cons x t hr,i+1,v,h=>by
  simp only[List.getElem?_cons_succ]at h;exact StrsAre.at hr i v h
theorem jc.at {prog:Program}{w:World}{κ:Type}[DecidableEq κ]{kd:PySem.KeyKind prog w κ}{kf:Value->κ}{ts:List κ}(x:jc kd kf h a ts)(k:∀o,h.get? a=some o->h'.get? a=some o):jc kd kf h' a ts:=by
 obtain⟨o,es,ep,t,ho,r⟩:=x;exact⟨o,es,ep,t,k o ho,r⟩
section
variable {prog:Program}{w:World}{A:Around}{R:Result->Shared->Prop}{I:Addr}{fp wr:List Addr}{G:Array GenState->Array GenState->Prop}{n:Nat}{P:Nat->Value->Prop}{St:Nat->Shared->Prop}{κ:Type}[DecidableEq κ] {kd:PySem.KeyKind prog w κ}{kf:Value->κ}{mk:κ->Tok->Value}
theorem vv (K0:zT kd kf mk)(W:WalksS prog w A.in1 I fp wr G n P St)(S:Addr)(NO:S∉fp)(ss:List κ)(hn:ss.length=n)
  (NP:∀i v,P i v->∃x t,v=mk x t/\ss[i]? = some x) (hb:n+1<scanBound):
  ∀(k i:Nat)(s:Shared),n - i=k->i<=n->St i s->jc kd kf s.heap S (fH (ss.take i)) ->
   (∀s',Moved (S::wr) G s s'->jc kd kf s'.heap S (fH ss)->R (.ok (.ret .none)) s') ->
   codeAny (model prog w) A (.builtin "set.update.loop" ⟨[.ref S,.ref I],[]⟩) R s:=by
 have VF:S∉wr:=λh=>NO (W.sub _ h);have zu:∀b∈wr,b∈S::wr:=λb hb=>mZ _ hb;intro k;induction k with
 |zero=>
  intro i s hk hi oU hS hR;have Ka:i=n:=by omega
  subst Ka;refine codeAny_builtin PyProof.Rows.F.entry_set_update_loop ?_;rw[Around.under_plainId PyProof.Rows.F.plain_set_update_loop _];show wpAny _ A.in1 (pyNext (.ref I)>>=_) _ _ s;refine wX (W.done s _ _ oU λs' hm=>?_);show wpAny _ A.in1 (ret Value.none) _ _ s';refine wY (hR s' (hm.mono zu) ?_);rw[List.take_of_length_le (by omega)]at hS;exact hS.at λo e=>hm.heap S _ VF e
 |succ k ih=>
  intro i s hk hi oU hS hR;have fG:i<n:=by omega
  refine codeAny_builtin PyProof.Rows.F.entry_set_update_loop ?_;rw[Around.under_plainId PyProof.Rows.F.plain_set_update_loop _];show wpAny _ A.in1 (pyNext (.ref I)>>=_) _ _ s;refine wX (W.item i s _ _ fG oU λv s' hP hst' hm=>?_);obtain⟨x,t,rfl,hx⟩:=NP i v hP;have DW:jc kd kf s'.heap S (fH (ss.take i)):=hS.at λo e=>hm.heap S _ VF e;show wpAny _ A.in1 (holding [mk x t] (setAdd S (mk x t))>>=_) _ _ s';refine wX (wpAny_holding ?_);unfold setAdd;refine wpAny_holding ?_;refine wX (kd.pyHash (k:=x) (K0.is x t) ?_);have hl:(fH (ss.take i)).length+1<scanBound:=by have:=ml (ss.take i);rw[List.length_take]at this;omega
  refine Ao K0 (s:={ s' with toks:=s'.toks+1 }) DW hl λb h' hsb QT=>?_;have XS:jc kd kf h' S (fH (ss.take (i+1))):=by
   rw[List.take_add_one,hx,Option.toList_some,Dh];exact QT
  refine wY ⟨plainId_quiet PyProof.Rows.F.plain_set_update_loop _,ih (i+1) _ (by omega) fG (W.frame _ s' _ _ hst' (Nat.le_succ _) λb hb o e=>?_) XS λEk hm'' hS''=>?_⟩
  ·rw[hsb.2 b (λh:b=S=>NO (by rw[←h];exact hb))];exact e
  ·refine hR Ek (Moved.trans W.gtrans ((hm.mono zu).then_heap (Nat.le_succ _) λb o hb e=>?_) hm'') hS'';rw[hsb.2 b (λh:b=S=>hb (by rw[h];exact mX))];exact e
end
section
variable {prog:Program}{w:World}{A:Around}{E:Value->Shared->Prop}{s:Shared}{κ:Type}[DecidableEq κ] {kd:PySem.KeyKind prog w κ}{kf:Value->κ}{mk:κ->Tok->Value}
noncomputable abbrev eP (w:World):Obj:={ cls:=.type "set",dict:=none,data:=.set #[] 0 (.fresh 0 0 (!w.params.followText "set-order")) }
theorem xT (a:Value) 
  (h:Q₁ (.ref s.heap.objs.size) { s with heap:=s.heap.push (eP w) }):
  codeAny (model prog w) A (.call (.builtin "set.__new__") ⟨[.type "set",a],[]⟩) (wants Q₁ E) s:=by
 refine codeAny_of_tree ?_;show wpAny _ A.in1 (do checkBuiltinCall "set.__new__" ⟨[.type "set",a],[]⟩;again (.builtin "set.__new__" ⟨[.type "set",a],[]⟩)) _ _ s;refine wX (wpAny_of_eq (PySem.F.newCall_set_1 a) (wY ⟨plainId_quiet PySem.F.plain_set_new _,codeAny_builtin PySem.F.entry_set_new ?_⟩));rw[Around.under_plainId PySem.F.plain_set_new _];unfold Builtin.«set.__new__» Builtin.Frozenset.newClass;have zu:=sub_set_self;obtain⟨hp,g,d,tk,os⟩:=s;dsimp only;wp_walk;refine wpAny_askSetting (wY ?_);dsimp only;simp only[newObj];refine wX (wpAny_alloc (wY ?_));exact wY h
set_option maxHeartbeats 3200000 in
theorem si (K0:zT kd kf mk){ss:List κ}
  (hh:A.handled=none) (hl:s.heap.IsList l items) (NP:∀(i:Nat)(v:Value),items[i]? = some v->∃x t,v=mk x t/\ss[i]? = some x) (bF:ss.length=items.size) (hb:items.size+1<scanBound)
  (h:∀(h':Heap)(tk:Nat),jc kd kf h' s.heap.objs.size (fH ss) ->
   (∀b o,b<s.heap.objs.size->s.heap.get? b=some o->h'.get? b=some o)->Q (.ref s.heap.objs.size) { s with heap:=h',toks:=tk }):
  wpAny (model prog w) A (call (.type "set") [.ref l]) Q E s:=by
 obtain⟨c,tl,XT⟩:=PySem.F.called_set.mro;have VG:=PySem.F.called_set.made;have zu:=PySem.F.called_set.sub;refine wpAny_call (codeAny_of_tree ?_);show wpAny _ _ (callAny (.type "set") _) _ _ _;refine wY ⟨Code.quiet_builtin _ (by decide +kernel),codeAny_builtin PySem.F.entry_type_call ?_⟩;rw[Around.under_plain (weight_type_call_type "set" [.ref l] []) rfl];have h1:=PySem.F.called_set.notType;have h2:=PySem.F.called_set.canCreate;have Zs:=PySem.F.typeCall_set_1 (.ref l);repeat (any_goals (first|assumption|wp_step))
 refine codeAny_mono (xT (.ref l) (E:=E) (Q₁:=λobj s₁=>obj=.ref s.heap.objs.size/\s₁={ s with heap:=s.heap.push (eP w) }) ⟨rfl,rfl⟩) λr s₁ hr=>?_;cases r with
 |error e=>exact hr
 |ok fl=>
  cases fl with
  |ret obj=>
   obtain⟨rfl,rfl⟩:=hr;have hS:(s.heap.push (eP w)).get? s.heap.objs.size=some (eP w):=vY _ rfl;have hT:Shared.TypeIs { s with heap:=s.heap.push (eP w) } (.ref s.heap.objs.size) "set":=⟨_,hS,rfl⟩;have Zt:=PySem.F.called_set.init.lookup;have Zu:=PySem.F.called_set.init.bind (.ref s.heap.objs.size);repeat (any_goals (first|assumption|wp_step))
   refine codeAny_mono (codeAny_call_builtin (R:=wants (λr s₂=>r=.none/\∃h' tk,s₂={ s with heap:=h',toks:=tk } /\
     jc kd kf h' s.heap.objs.size (fH ss) /\
     (∀b o,b<s.heap.objs.size->s.heap.get? b=some o->h'.get? b=some o)) E) PySem.F.called_set.init.plain PySem.F.entry_set_init (check_set_init_1 hT ?_)) λr₂ s₂ hr₂=>?_
   ·obtain⟨ol,NQ,zx,nl,NR⟩:=hl;obtain⟨XU,QU,VH,NS⟩:=ol;simp only at zx NR;subst zx;subst NR;have Ua:(s.heap.push (eP w)).get? l=some { cls:=.type "list",dict:=QU,data:=.seq items nl,slots:=NS }:=vZ _ NQ;have XV:=PySem.F.sub_list_set;have XW:=PySem.F.sub_list_frozenset;have nQ:(Value.type "list" == Value.type "dict")=false:=by decide
    have JZ:(s.heap.push (eP w)).IsList l items:=⟨_,Ua,rfl,nl,rfl⟩;unfold Builtin.«set.__init__» noKeywords Builtin.Frozenset.updateFrom;generalize hPI:pyIter=PI;wp_walk;subst hPI;refine wpAny_pyIter_list JZ ?_;refine wX (wpAny_runValue ?_);have VI:l<s.heap.objs.size:=vX NQ;have XX:A.in1.in1.in1.handled=none:=by simp[hh]
    have Ub:l≠(s.heap.push (eP w)).objs.size:=by
     rw[Heap.size_push];exact vS (Nat.lt_succ_of_lt VI)
    have NO:s.heap.objs.size∉[(s.heap.push (eP w)).objs.size,l]:=by
     rw[Heap.size_push];simp only[List.mem_cons,List.mem_singleton,List.not_mem_nil,or_false,not_or];exact⟨vS (Nat.lt_succ_self _),Nat.ne_of_gt VI⟩
    refine vv K0 ((Walks.list XX _ l Ub items).toS) s.heap.objs.size
     NO ss bF NP hb (items.size - 0) 0 _ (by omega) (uN _)
     ⟨⟨_,vY _ rfl,rfl,rfl⟩,(JZ.push _)⟩ ?hS0 ?hR
    case hS0=>
     have Uc:((s.heap.push (eP w)).push { cls:=.type "list_iterator",data:=.fields #[.ref l,.int 0 0] }).get? s.heap.objs.size
       = some (eP w):=vZ _ hS
     exact⟨_,#[],0,_,Uc,⟨rfl,rfl,rfl⟩,rfl,λe he=>by simp at he,List.Perm.refl _,List.nodup_nil,(by show(0:Nat)<scanBound;decide),rfl,rfl,List.Pairwise.nil⟩
    case hR=>
     intro s' hm DW
     obtain⟨h',g',d',Hm,T4⟩:=s'
     have eg:g'=s.gens:=hm.gens
     have ed:d'=s.drawn:=hm.drawn
     have eo:T4=s.os:=hm.os
     subst eg;subst ed;subst eo
     show wpAny _ _ _ _ _ _
     refine wY ?_
     show wpAny _ _ (ret Value.none) _ _ _
     refine wY ⟨rfl,h',Hm,rfl,DW,λb o hb e=>?_⟩
     have hb1:b≠s.heap.objs.size:=vS hb
     have XY:b≠(s.heap.push (eP w)).objs.size:=by
      rw[Heap.size_push];exact vS (Nat.lt_succ_of_lt hb)
     exact hm.heap b o (by simp only[List.mem_cons,List.mem_singleton,List.not_mem_nil,or_false,not_or];exact⟨hb1,XY⟩) (vZ _ (vZ _ e))
   ·cases r₂ with
    |error e=>exact hr₂
    |ok fl₂=>
     cases fl₂ with
     |ret r=>
      obtain⟨rfl,h',tk,rfl,DW,fJ⟩:=hr₂;repeat (any_goals (first|assumption|wp_step))
      exact h _ _ DW fJ
     |_=>exact hr₂.elim
  |_=>exact hr.elim
end
open Sem (wp)
section
variable {M:Model}{A:Around}{E:Value->Shared->Prop}{s:Shared}
theorem ID (hn:n≠0)(h:∀k d,k<n->Q k { s with drawn:=d }):wpAny M A (choose src n) Q E s:=by
 intro Γ p hG;unfold choose;rw[Sem.wp_choose];refine⟨hn,?_⟩;have:=h _ (s.drawn.bump src) (Nat.mod_lt (M.w.draws src (s.drawn.get src)) (Nat.pos_of_ne_zero hn));simpa using this
end
theorem mm {α:Type}:∀(l:List α)(i:Nat),i<l.length->(l.eraseIdx i).length=l.length - 1:=λl i h=>by rw[List.length_eraseIdx,if_pos h]
theorem lA {α:Type}:∀(l:List α)(i:Nat)(x:α),l[i]? = some x->(x::l.eraseIdx i).Perm l
 |[],i,x,h=>by simp at h
 |a::l,0,x,h=>by simp at h;subst h;exact List.Perm.refl _
 |a::l,i+1,x,h=>by
  rw[List.eraseIdx_cons_succ];simp only[List.getElem?_cons_succ]at h;exact(List.Perm.swap a x _).trans ((lA l i x h).cons a)
theorem Bp {α:Type}:∀(n:Nat)(xs:List α)(s:Shared)(Q:List α->Shared->Prop),xs.length=n->(∀ys d,ys.Perm xs->Q ys { s with drawn:=d })->wpAny M A (drawOrder n xs) Q E s
 |0,xs,s,Q,hl,h=>by
  have:xs=[]:=List.eq_nil_of_length_eq_zero hl;subst this;exact wY (h [] s.drawn (List.Perm.refl _))
 |n+1,[],s,Q,hl,h=>by simp at hl
 |n+1,x::r,s,Q,hl,h=>by
  show wpAny M A (choose .order (x::r).length>>=λi=>match (x::r)[i]? with
   |some x'=>(do return x'::(←drawOrder n ((x::r).eraseIdx i)))
   |none=>unsupported "internal:drawOrder") Q E s
  refine wX (ID (by simp) λk d hk=>?_);obtain⟨y,hy⟩:∃y,(x::r)[k]? = some y:=⟨_,vU hk⟩;rw[hy];refine wX (Bp n _ _ _ (by rw[mm _ _ hk,hl];rfl) λys d' hp=>wY (h _ _ ((hp.cons y).trans (lA _ _ _ hy))))
theorem Bq {α:Type}(next:Nat->Nat):∀(fuel k:Nat)(left:List α)(out:Array α),left.length=fuel->(pickOrder.go next fuel k left out).toList.Perm (out.toList++left)
 |0,k,left,out,hl=>by
  have:left=[]:=List.eq_nil_of_length_eq_zero hl;subst this;unfold pickOrder.go;simp
 |fuel+1,k,left,out,hl=>by
  unfold pickOrder.go;have hk:next k % left.length<left.length:=Nat.mod_lt _ (by omega);obtain⟨y,hy⟩:∃y,left[next k % left.length]? = some y:=⟨_,vU hk⟩;rw[hy];dsimp only;refine(Bq next fuel (k+1) _ _ (by rw[mm _ _ hk];omega)).trans ?_;rw[Array.toList_push,List.append_assoc];exact(lA _ _ _ hy).append_left _
theorem Di {α:Type}(next:Nat->Nat)(xs:Array α):(pickOrder next xs).toList.Perm xs.toList:=by
 have:=Bq next xs.size 0 xs.toList #[] (by simp);simpa [pickOrder]using this
theorem b9:Slot "set_iterator" "__next__" "set_iterator.__next__" :=
 .of (owner:="set_iterator") (n:="__next__") (by rw[typeLookup_type,builtinLookup_eq_fast];kernel_rfl) (by decide +kernel) (by decide +kernel) (by decide +kernel)
  (by first|exact .inl (by decide +kernel)|exact .inr (by decide +kernel)) (by rw[isSubtype_type];kernel_rfl)
theorem ft:entryFor table "set_iterator.__next__" = some Builtin.«set_iterator.__next__»:=entryFor_of_tree (by kernel_rfl)
theorem fZ (a:Value):argsOk "set_iterator.__next__" ⟨[a],[]⟩:=by unfold argsOk;kernel_rfl
theorem lf:Slot "set_iterator" "__iter__" "set_iterator.__iter__" :=
 .of (owner:="set_iterator") (n:="__iter__") (by rw[typeLookup_type,builtinLookup_eq_fast];kernel_rfl) (by decide +kernel) (by decide +kernel) (by decide +kernel)
  (by first|exact .inl (by decide +kernel)|exact .inr (by decide +kernel)) (by rw[isSubtype_type];kernel_rfl)
theorem pO:entryFor table "set_iterator.__iter__" = some Builtin.«dict_keyiterator.__iter__» :=
 entryFor_alias (id':="dict_keyiterator.__iter__") (by kernel_rfl) rfl (by decide +kernel) (by kernel_rfl)
theorem sj (a:Value):argsOk "set_iterator.__iter__" ⟨[a],[]⟩:=by unfold argsOk;kernel_rfl
theorem oK:entryFor table "set.__iter__" = some Builtin.«frozenset.__iter__» :=
 entryFor_alias (id':="frozenset.__iter__") (by kernel_rfl) rfl (by decide +kernel) (by kernel_rfl)
noncomputable abbrev lB (fst:Value)(i:Nat)(S:Addr)(n ep:Nat):Obj:={ cls:=.type "set_iterator",data:=.fields #[fst,.int i 0,.ref S,.int n 0,.int ep 0] }
section
variable {prog:Program}{w:World}{A:Around}{E:Value->Shared->Prop}{s:Shared}{it S:Addr}{i ep:Nat}{o:Obj}{es:Array (Int×Value)}{t:SetTable}
theorem dH (ho:s.heap.get? it=some (lB fst i S n ep)):s.TypeIs (.ref it) "set_iterator":=⟨_,ho,rfl⟩
theorem vw {k k':Nat}{x:Value}{Q:Option Value->Shared->Prop}(ho:s.heap.get? it=some (lB (.int k 0) i S es.size ep))
  (hS:s.heap.get? S=some o) (hd:o.data=.set es ep t) (hf:t.fits es.size=true)
  (hN:∀(A':Around)(E':Value->Shared->Prop)(Q':Option (Value×Nat)->Shared->Prop),Q' (some (x,k')) s->wpAny (model prog w) A' (setNext S k i ep) Q' E' s)
  (hQ:∀h',h'.get? it=some (lB (.int k' 0) (i+1) S es.size ep)->Heap.SameBut it s.heap h'->Q (some x) { s with heap:=h' }):
  wpAny (model prog w) A (pyNext (.ref it)) Q E s:=by
 unfold pyNext;refine wX (wpAny_attempt (wpAny_callSpecial?_slot (name:=Str.ofString "__next__") (dH ho) b9
  (wpAny_call_entry b9 (dH ho) ft ?_ (fZ _))))
 show wpAny _ _ (fieldsOf (.ref it)>>=_) _ _ s;refine wX (wpAny_fieldsOf ho rfl ?_);show wpAny _ _ (setEntries S>>=_) _ _ s;refine wX (wpAny_setEntries_of hS hd hf ?_);rw[if_neg (by simp)];show wpAny _ _ (setNext S _ _ _>>=_) _ _ s;simp only[Int.toNat_natCast];refine wX (hN _ _ _ ?_);dsimp only;refine wX (wpAny_setField_rec ho (by simp) λh1 e1 b1=>?_);refine wX (wpAny_setField_rec e1 (by simp) λh2 e2 b2=>?_);exact wY ⟨x,rfl,wY (hQ h2 (by simpa [rawInt,lB]using e2) (b1.trans b2))⟩
theorem vx {k:Nat}{Q:Option Value->Shared->Prop}(hh:A.handled=none)(ho:s.heap.get? it=some (lB (.int k 0) i S es.size ep))
  (hS:s.heap.get? S=some o) (hd:o.data=.set es ep t) (hf:t.fits es.size=true)
  (hN:∀(A':Around)(E':Value->Shared->Prop)(Q':Option (Value×Nat)->Shared->Prop),Q' none s->wpAny (model prog w) A' (setNext S k i ep) Q' E' s)
  (hQ:∀h',Heap.ExtBut it s.heap h'->Q none { s with heap:=h' }):
  wpAny (model prog w) A (pyNext (.ref it)) Q E s:=by
 unfold pyNext;refine wX (wpAny_attempt (wpAny_callSpecial?_slot (name:=Str.ofString "__next__") (dH ho) b9
  (wpAny_call_entry b9 (dH ho) ft ?_ (fZ _))))
 show wpAny _ _ (fieldsOf (.ref it)>>=_) _ _ s;refine wX (wpAny_fieldsOf ho rfl ?_);show wpAny _ _ (setEntries S>>=_) _ _ s;refine wX (wpAny_setEntries_of hS hd hf ?_);rw[if_neg (by simp)];show wpAny _ _ (setNext S _ _ _>>=_) _ _ s;simp only[Int.toNat_natCast];refine wX (hN _ _ _ ?_);dsimp only;refine wX (wpAny_setField_rec ho (by simp) λh1 e1 b1=>?_);refine wX ?_;simp only[newExc,newTuple];refine wX (wpAny_newObj_type ?_ (by size_fits));refine wX (m:=firstArgMember _ _) (wpAny_of_eq (a:=Value.none) (by first|rfl|(simp only[firstArgMember];rfl)) ?_);refine wpAny_newObj_type ?_ (by size_fits);simp only[raiseNew];refine wX (wpAny_handled ?_);rw[show A.in1.handled=none from hh];refine wX (wY (wpAny_throw ?_));refine wX (wpAny_isInstance (T:="StopIteration") (b:=true) ⟨_,vY _ rfl,rfl⟩ isSubtype_stop ?_);exact wY (hQ _ ((b1.extBut.push _).push _))
theorem sk {T:Addr}{pl:List Nat}{p:Nat}{x:Int×Value}{nt:Nat}{Q:Option Value->Shared->Prop}(ho:s.heap.get? it=some (lB (.ref T) i S es.size ep))
  (hT:s.heap.get? T=some (seqObj "tuple" (pl.map λ(p:Nat)=>Value.int p 0).toArray nt))
  (hS:s.heap.get? S=some o) (hd:o.data=.set es ep t) (hf:t.fits es.size=true) (hp:pl[i]? = some p) (hx:es[p]? = some x)
  (hQ:∀h',h'.get? it=some (lB (.ref T) (i+1) S es.size ep)->Heap.SameBut it s.heap h'->Q (some x.2) { s with heap:=h' }):
  wpAny (model prog w) A (pyNext (.ref it)) Q E s:=by
 unfold pyNext;refine wX (wpAny_attempt (wpAny_callSpecial?_slot (name:=Str.ofString "__next__") (dH ho) b9
  (wpAny_call_entry b9 (dH ho) ft ?_ (fZ _))))
 show wpAny _ _ (fieldsOf (.ref it)>>=_) _ _ s;refine wX (wpAny_fieldsOf ho rfl ?_);show wpAny _ _ (setEntries S>>=_) _ _ s;refine wX (wpAny_setEntries_of hS hd hf ?_);rw[if_neg (by simp)];show wpAny _ _ (seqItems? (.ref T)>>=_) _ _ s;refine wX (wpAny_seqItems hT rfl ?_);have e1:(pl.map λ(p:Nat)=>Value.int p 0).toArray[(i:Int).toNat]? = some (.int p 0):=by simp[hp]
 dsimp only;rw[e1];dsimp only;have e2:wpAny (model prog w) A.in1 (setNextDrawn S (p:Int).toNat (ep:Int).toNat) (λy s'=>y=x.2/\s'=s) (λ_ _=>False) s:=by
  unfold setNextDrawn;refine wX (wpAny_setState_of hS hd hf ?_);dsimp only;rw[if_neg (by simp)];simp only[Int.toNat_natCast,hx];exact wY ⟨rfl,rfl⟩
 refine wX (wpAny_mono e2 (λy s' hy=>?_) λ_ _ z=>z.elim);obtain⟨rfl,rfl⟩:=hy;refine wX (wpAny_setField_rec ho (by simp) λh1 e1 b1=>?_);exact wY ⟨_,rfl,wY (hQ h1 (by simpa [rawInt,lB]using e1) b1)⟩
theorem sn {T:Addr}{pl:List Nat}{nt:Nat}{Q:Option Value->Shared->Prop}(hh:A.handled=none)(ho:s.heap.get? it=some (lB (.ref T) i S es.size ep))
  (hT:s.heap.get? T=some (seqObj "tuple" (pl.map λ(p:Nat)=>Value.int p 0).toArray nt))
  (hS:s.heap.get? S=some o) (hd:o.data=.set es ep t) (hf:t.fits es.size=true) (hp:pl[i]? = none)
  (hQ:∀h',Heap.ExtBut it s.heap h'->Q none { s with heap:=h' }):
  wpAny (model prog w) A (pyNext (.ref it)) Q E s:=by
 unfold pyNext;refine wX (wpAny_attempt (wpAny_callSpecial?_slot (name:=Str.ofString "__next__") (dH ho) b9
  (wpAny_call_entry b9 (dH ho) ft ?_ (fZ _))))
 show wpAny _ _ (fieldsOf (.ref it)>>=_) _ _ s;refine wX (wpAny_fieldsOf ho rfl ?_);show wpAny _ _ (setEntries S>>=_) _ _ s;refine wX (wpAny_setEntries_of hS hd hf ?_);rw[if_neg (by simp)];show wpAny _ _ (seqItems? (.ref T)>>=_) _ _ s;refine wX (wpAny_seqItems hT rfl ?_);have e1:(pl.map λ(p:Nat)=>Value.int p 0).toArray[(i:Int).toNat]? = none:=by simpa using hp
 dsimp only;rw[e1];dsimp only;refine wX (wpAny_setField_rec ho (by simp) λh0 e0 b0=>?_);refine wX (wpAny_setField_rec e0 (by simp) λh1 e1 b1=>?_);refine wX ?_;simp only[newExc,newTuple];refine wX (wpAny_newObj_type ?_ (by size_fits));refine wX (m:=firstArgMember _ _) (wpAny_of_eq (a:=Value.none) (by first|rfl|(simp only[firstArgMember];rfl)) ?_);refine wpAny_newObj_type ?_ (by size_fits);simp only[raiseNew];refine wX (wpAny_handled ?_);rw[show A.in1.handled=none from hh];refine wX (wY (wpAny_throw ?_));refine wX (wpAny_isInstance (T:="StopIteration") (b:=true) ⟨_,vY _ rfl,rfl⟩ isSubtype_stop ?_);exact wY (hQ _ (((b0.trans b1).extBut.push _).push _))
theorem xU (ho:s.heap.get? it=some (lB fst i S n ep))(h:Q (.ref it) s):wpAny (model prog w) A (pyIter (.ref it)) Q E s:=by
 refine wpAny_pyIter_slot (dH ho) lf (wpAny_call_entry lf (dH ho) pO ?_ (sj _));show wpAny _ _ (ret (.ref it)) _ _ s;exact wY ⟨_,rfl,"set_iterator",_,dH ho,b9.lookup,h⟩
end
section
variable {prog:Program}{w:World}{A:Around}{E:Value->Shared->Prop}{s:Shared}{it S:Addr}{i k ep:Nat}{o:Obj}{es:Array (Int×Value)}{t:SetTable}
theorem tq (hS:s.heap.get? S=some o)(hd:o.data=.set es ep t)(hf:t.fits es.size=true)(hb:w.params.followText "set-order" = true)
  (h:Q (((pickOrder (w.params.setOrder S ep) es)[i]?).map λe=>(e.2,k)) s):wpAny (model prog w) A (setNext S k i ep) Q E s:=by
 unfold setNext;refine wX (wpAny_setState_of hS hd hf ?_);dsimp only;unfold setsByText;refine wX (wX (wpAny_askSetting (wY ?_)));show wpAny _ _ (if w.params.followText "set-order" = true then _ else _) _ _ _;rw[if_pos hb,if_neg (by simp)];unfold setWalk setsByText;refine wX (wX (wpAny_setState_of hS hd hf ?_));dsimp only;refine wX (wX (wpAny_askSetting (wY ?_)));show wpAny _ _ (if w.params.followText "set-order" = true then _ else _) _ _ _;rw[if_pos hb];refine wX (wpAny_askSetting (wY ?_));exact wY h
theorem pP (hS:s.heap.get? S=some o)(hd:o.data=.set es ep t)(hf:t.fits es.size=true)(hb:w.params.followText "set-order" = false)(hl:t.led=true)(hz:(!t.plain && decide (es.size > 1))=false)
  (h:Q (match es[SetTable.below t.place k]?,t.place[SetTable.below t.place k]? with
   |some (_,x),some j=>some (x,j+1)
   |_,_=>none) s):wpAny (model prog w) A (setNext S k i ep) Q E s:=by
 unfold setNext;refine wX (wpAny_setState_of hS hd hf ?_);dsimp only;unfold setsByText;refine wX (wX (wpAny_askSetting (wY ?_)));show wpAny _ _ (if w.params.followText "set-order" = true then _ else _) _ _ _;rw[if_neg (by rw[hb];simp)];show wpAny _ _ (if(!t.plain && decide (es.size > 1))=true then _ else _) _ _ _;rw[if_neg (by rw[hz];simp)];show wpAny _ _ ((if(!t.led && !es.isEmpty)=true then unsupported "set:maker-not-led" else pure ())>>=_) _ _ _;rw[hl,if_neg (by simp)];refine wX (wY ?_);exact wY h
theorem tu (hh:A.handled=none)(hd:o.data=.set es ep t)(hf:t.fits es.size=true)(nQ:S≠it)(vs:List Value)(hv:vs.length=es.size)(sl:Nat->Nat)
  (hN:∀i x,vs[i]? = some x->∀(A':Around)(E':Value->Shared->Prop)(s:Shared)(Q':Option (Value×Nat)->Shared->Prop),s.heap.get? S=some o->Q' (some (x,sl (i+1))) s->wpAny (model prog w) A' (setNext S (sl i) i ep) Q' E' s)
  (hE:∀(A':Around)(E':Value->Shared->Prop)(s:Shared)(Q':Option (Value×Nat)->Shared->Prop),s.heap.get? S=some o->Q' none s->wpAny (model prog w) A' (setNext S (sl es.size) es.size ep) Q' E' s):
  Walks prog w A it [it,S] [it] es.size (λi v=>vs[i]? = some v) (λi h=>h.get? it=some (lB (.int (sl i) 0) i S es.size ep)/\h.get? S=some o) where
 sub:=λb hb=>by simp at hb;simp[hb]
 frame:=λ_ _ _ st hk=>⟨hk it (by simp) _ st.1,hk S (by simp) _ st.2⟩
 item:=λi s Q E hi st hQ=>by
  obtain⟨x,hx⟩:∃x,vs[i]? = some x:=⟨_,vU (by omega)⟩;refine vw st.1 st.2 hd hf (λA' E' Q' q=>hN i x hx A' E' s Q' st.2 q) λh' h1 h2=>?_;exact hQ x h' s.toks hx ⟨h1,h2.extBut S _ nQ st.2⟩ λb u hb e=>h2.extBut b u (λz=>hb (by simp[z])) e
 done:=λs Q E st hQ=>vx hh st.1 st.2 hd hf (λA' E' Q' q=>hE A' E' s Q' st.2 q) λh' h1=>hQ h' s.toks λb u hb e=>h1 b u (λz=>hb (by simp[z])) e
 self:=λ_ _ _ _ st hQ=>xU st.1 hQ
theorem Aq {T:Addr}{pl:List Nat}{nt:Nat}(hh:A.handled=none)(hd:o.data=.set es ep t)(hf:t.fits es.size=true)(nQ:S≠it)(XZ:T≠it)(hp:pl.Perm (List.range es.size)):
  Walks prog w A it [it,S,T] [it] es.size (λi v=>(pl.map λp=>(es.getD p (0,.none)).2)[i]? = some v)
   (λi h=>h.get? it=some (lB (.ref T) i S es.size ep)/\h.get? S=some o/\h.get? T=some (seqObj "tuple" (pl.map λ(p:Nat)=>Value.int p 0).toArray nt)) where
 sub:=λb hb=>by simp at hb;simp[hb]
 frame:=λ_ _ _ st hk=>⟨hk it (by simp) _ st.1,hk S (by simp) _ st.2.1,hk T (by simp) _ st.2.2⟩
 item:=λi s Q E hi st hQ=>by
  have bF:pl.length=es.size:=by rw[hp.length_eq,List.length_range]
  obtain⟨p,hx⟩:∃p,pl[i]? = some p:=⟨_,vU (by omega)⟩;have Sb:p<es.size:=List.mem_range.mp (hp.mem_iff.mp (vL hx));have he:es[p]? = some (es.getD p (0,.none)):=by rw[Array.getD_eq_getD_getElem?,Array.getElem?_eq_getElem Sb];rfl
  refine sk st.1 st.2.2 st.2.1 hd hf hx he λh' h1 h2=>?_;exact hQ _ h' s.toks (by simp[hx]) ⟨h1,h2.extBut S _ nQ st.2.1,h2.extBut T _ XZ st.2.2⟩ λb u hb e=>h2.extBut b u (λz=>hb (by simp[z])) e
 done:=λs Q E st hQ=>by
  have bF:pl.length=es.size:=by rw[hp.length_eq,List.length_range]
  exact sn hh st.1 st.2.2 st.2.1 hd hf (List.getElem?_eq_none (by omega)) λh' h1=>hQ h' s.toks λb u hb e=>h1 b u (λz=>hb (by simp[z])) e
 self:=λ_ _ _ _ st hQ=>xU st.1 hQ
end
theorem Ar {α:Type}(es:Array α)(d:α):(List.range es.size).map (λp=>es.getD p d)=es.toList:=by
 apply List.ext_getElem?;intro i;by_cases h:i<es.size
 ·simp[h,Array.getD_eq_getD_getElem?]
 ·simp[h]
section
variable {prog:Program}{w:World}{A:Around}{E:Value->Shared->Prop}{s:Shared}
theorem Fj {κ:Type}[DecidableEq κ]{kd:PySem.KeyKind prog w κ}{kf:Value->κ}{mk:κ->Tok->Value}(K0:zT kd kf mk){S:Addr}{ts:List κ}{Q:Value->Shared->Prop}(hS:jc kd kf s.heap S ts)
  (hQ:∀(h':Heap)(d:Drawn)(it:Addr)(vs:List Value)(fp:List Addr)(St:Nat->Heap->Prop),(∀A',A'.handled=none->Walks prog w A' it fp [it] ts.length (λi v=>vs[i]? = some v) St)->St 0 h' ->
   (∀b u,s.heap.get? b=some u->h'.get? b=some u)->s.heap.objs.size<=it->(∀b∈fp,b=S∨s.heap.objs.size<=b)->vs.length=ts.length->(vs.map kf).Perm ts->(∀v∈vs,∃x t,v=mk x t) ->
   Q (.ref it) { s with heap:=h',drawn:=d }):wpAny (model prog w) A (pyIter (.ref S)) Q E s:=by
 obtain⟨o,es,ep,t,ho,Hl,hd,El,hp,nd,hb,hf,GV,ls⟩:=hS;have sz:es.size=ts.length:=by rw[←hp.length_eq,vI,vG]
 have NT:S<s.heap.objs.size:=vX ho;have VJ:s.TypeIs (.ref S) "set":=⟨_,ho,Hl.1⟩;have GW:∀e∈es.toList,∃x t,e.2=mk x t:=λe he=>by
  obtain⟨⟨k,hk,_⟩,_⟩:=El e he;obtain⟨t,q⟩:=K0.of hk;exact⟨k,t,q⟩
 refine wpAny_pyIter_slot VJ PySem.F.slot_set_iter (wpAny_call_entry PySem.F.slot_set_iter VJ oK ?_ (PySem.F.args_set_iter_1 _));show wpAny _ _ (Builtin.Frozenset.sizeOf S>>=_) _ _ s;unfold Builtin.Frozenset.sizeOf;refine wX (wX (wpAny_setEntries_of ho hd hf (wY ?_)));unfold setDrawn setsByText;refine wX (wX (wpAny_setState_of ho hd hf ?_));dsimp only;refine wX (wX (wpAny_askSetting (wY (wY ?_))));show wpAny _ _ (if(!w.params.followText "set-order" && (!t.plain && decide (es.size > 1)))=true then _ else _) _ _ _;have NU:(es.toList.map (·.2)).map kf=es.toList.map (λe=>kf e.2):=by rw[uP];rfl
 by_cases Lu:w.params.followText "set-order" = true
 ·rw[if_neg (by rw[Lu];simp)];refine wX (wY ?_);refine wX (wpAny_setEpoch_of ho hd hf ?_);have pp:=Di (w.params.setOrder S ep) es;have bF:((pickOrder (w.params.setOrder S ep) es).toList.map (·.2)).length=es.size:=by rw[vI,pp.length_eq,vG]
  refine wX (wpAny_newObj_type (wY ⟨_,rfl,"set_iterator",_,⟨_,vY _ rfl,rfl⟩,b9.lookup,?_⟩));refine hQ _ s.drawn s.heap.objs.size ((pickOrder (w.params.setOrder S ep) es).toList.map (·.2)) [s.heap.objs.size,S] (λi h=>h.get? s.heap.objs.size=some (lB (.int ((λ_=>0:Nat->Nat) i:Nat) 0) i S es.size ep)/\h.get? S=some o) (λA' hA=>?_) ?_ (λb u e=>vZ _ e) (vT _) (λb hb=>?_) (bF.trans sz) ?_ ?_
  ·rw[←sz];exact tu hA hd hf (vS NT) _ bF (λ_=>0) (λi x hx A' E' s Q' h1 h2=>tq h1 hd hf Lu (by
    rw[vA,Array.getElem?_toList]at hx;obtain⟨e,he,rfl⟩:=oY hx;rw[he];exact h2)) (λA' E' s Q' h1 h2=>tq h1 hd hf Lu (by
    rw[Array.getElem?_eq_none (by rw[←vG,pp.length_eq,vG];exact vT _)];exact h2))
  ·exact⟨vY _ rfl,vZ _ ho⟩
  ·simp only[List.mem_cons,List.not_mem_nil,or_false]at hb;rcases hb with rfl|rfl
   ·exact .inr (vT _)
   ·exact .inl rfl
  ·refine List.Perm.trans ?_ hp;rw[←NU];exact(pp.map _).map _
  ·intro v hv;obtain⟨e,he,rfl⟩:=vO hv;exact GW e (pp.mem_iff.mp he)
 ·rw[Bool.not_eq_true]at Lu;have hl:t.led=true:=by rw[GV,Lu];rfl
  by_cases h1:(!t.plain && decide (es.size > 1))=false
  ·rw[if_neg (by rw[h1];simp)];refine wX (wY ?_);refine wX (wpAny_setEpoch_of ho hd hf ?_);refine wX (wpAny_newObj_type (wY ⟨_,rfl,"set_iterator",_,⟨_,vY _ rfl,rfl⟩,b9.lookup,?_⟩));have Kb:∀i,i<=es.size->SetTable.below t.place (if i=0 then 0 else t.place.getD (i - 1) 0+1)=i:=λi hi=>by
    by_cases h0:i=0
    ·rw[if_pos h0,Am ls,h0]
    ·rw[if_neg h0,Al ls (i:=i - 1) (by rw[Array.getD_eq_getD_getElem?,Array.getElem?_eq_getElem (by have:t.place.size=es.size:=by { simp only[SetTable.fits,vC,beq_iff_eq,decide_eq_true_eq]at hf;exact hf.1 };omega)];rfl)];omega
   have Zv:t.place.size=es.size:=by
    simp only[SetTable.fits,vC,beq_iff_eq,decide_eq_true_eq]at hf;exact hf.1
   refine hQ _ s.drawn s.heap.objs.size (es.toList.map (·.2)) [s.heap.objs.size,S] (λi h=>h.get? s.heap.objs.size=some (lB (.int ((λi=>if i=0 then 0 else t.place.getD (i - 1) 0+1:Nat->Nat) i:Nat) 0) i S es.size ep)/\h.get? S=some o) (λA' hA=>?_) ?_ (λb u e=>vZ _ e) (vT _) (λb hb=>?_) (by rw[vI,vG,sz]) (by rw[NU];exact hp) ?_
   ·rw[←sz];refine tu hA hd hf (vS NT) _ (by simp) (λi=>if i=0 then 0 else t.place.getD (i - 1) 0+1) (λi x hx A' E' s Q' q1 q2=>pP q1 hd hf Lu hl h1 ?_) (λA' E' s Q' q1 q2=>pP q1 hd hf Lu hl h1 ?_)
    ·rw[Kb i (by have:=(vV hx).1;simp at this;omega)];rw[vA,Array.getElem?_toList]at hx;obtain⟨e,he,rfl⟩:=oY hx;have hi:=(Array.getElem?_eq_some_iff.mp he).1;rw[he,show t.place[i]? = some (t.place.getD i 0) by rw[Array.getD_eq_getD_getElem?,Array.getElem?_eq_getElem (by omega)];rfl];exact q2
    ·rw[Kb es.size (vT _),Array.getElem?_eq_none (vT _)];exact q2
   ·exact⟨vY _ rfl,vZ _ ho⟩
   ·simp only[List.mem_cons,List.not_mem_nil,or_false]at hb;rcases hb with rfl|rfl
    ·exact .inr (vT _)
    ·exact .inl rfl
   ·intro v hv;obtain⟨e,he,rfl⟩:=vO hv;exact GW e he
  ·rw[if_pos (by rw[Lu];simpa using h1)];refine wX (Bp es.size (List.range es.size) _ _ (by simp) λpl d pp=>?_);refine wX (wpAny_newTuple ?_ (by rw[vI,pp.length_eq,List.length_range,sz];exact fits_of_scanBound hb));refine wX (wpAny_setEpoch_of (vZ _ ho) hd hf ?_);refine wX (wpAny_newObj_type (wY ⟨_,rfl,"set_iterator",_,⟨_,vY _ rfl,rfl⟩,b9.lookup,?_⟩));have hsz:(s.heap.push (seqObj "tuple" (pl.map λ(p:Nat)=>Value.int p 0).toArray 0)).objs.size=s.heap.objs.size+1:=size_push' _ _;have i6:((pl.map λp=>(es.getD p (0,.none)).2)).Perm (es.toList.map (·.2)):=by
    have:=(pp.map λp=>es.getD p (0,Value.none)).map (·.2);rw[Ar]at this;rw[uP]at this;exact this
   refine hQ _ d _ (pl.map λp=>(es.getD p (0,.none)).2) [(s.heap.push (seqObj "tuple" (pl.map λ(p:Nat)=>Value.int p 0).toArray 0)).objs.size,S,s.heap.objs.size] (λi h=>h.get? (s.heap.push (seqObj "tuple" (pl.map λ(p:Nat)=>Value.int p 0).toArray 0)).objs.size=some (lB (.ref s.heap.objs.size) i S es.size ep)/\h.get? S=some o/\h.get? s.heap.objs.size=some (seqObj "tuple" (pl.map λ(p:Nat)=>Value.int p 0).toArray 0)) (λA' hA=>?_) ?_ (λb u e=>vZ _ (vZ _ e)) ?_ (λb hb=>?_) ?_ ?_ ?_
   ·rw[←sz];exact Aq (nt:=0) hA hd hf (by show S≠(s.heap.push _).objs.size;rw[size_push'];exact vS (Nat.lt_succ_of_lt NT)) (by show s.heap.objs.size≠(s.heap.push _).objs.size;rw[size_push'];exact vS (Nat.lt_succ_self _)) pp
   ·exact⟨vY _ rfl,vZ _ (vZ _ ho),vZ _ (vY _ rfl)⟩
   ·show s.heap.objs.size<=(s.heap.push _).objs.size;rw[size_push'];omega
   ·simp only[List.mem_cons,List.not_mem_nil,or_false]at hb;rcases hb with rfl|rfl|rfl
    ·refine .inr ?_;show s.heap.objs.size<=(s.heap.push _).objs.size;rw[size_push'];omega
    ·exact .inl rfl
    ·exact .inr (vT _)
   ·rw[i6.length_eq,vI,vG,sz]
   ·exact((i6.map kf).trans (by rw[NU])).trans hp
   ·intro v hv;obtain⟨e,he,rfl⟩:=vO (i6.mem_iff.mp hv);exact GW e he
end
theorem Dj (h:ItemsOf (λi v=>vs[i]? = some v) kY vs.length):kY.toList=vs:=by
 apply List.ext_getElem?;intro i;by_cases hi:i<kY.size
 ·have e:kY[i]? = some kY[i]:=Array.getElem?_eq_getElem hi;rw[Array.getElem?_toList,e,h.2 i _ e]
 ·rw[List.getElem?_eq_none (by rw[vG];omega),List.getElem?_eq_none (by rw[←h.1];omega)]
section
variable {prog:Program}{w:World}{A:Around}{E:Value->Shared->Prop}{s:Shared}{κ:Type}[DecidableEq κ] {kd:PySem.KeyKind prog w κ}{kf:Value->κ}{mk:κ->Tok->Value}
theorem xV (K0:zT kd kf mk)(hh:A.handled=none)(hS:jc kd kf s.heap S ts)
  (hQ:∀s' vs,(∀b u,s.heap.get? b=some u->s'.heap.get? b=some u)->s'.gens=s.gens->s'.os=s.os->vs.length=ts.length->(vs.map kf).Perm ts->(∀v∈vs,∃x t,v=mk x t)->Q vs s'):
  wpAny (model prog w) A (collect (.ref S)) Q E s:=by
 have Lp:∀(s1:Shared),jc kd kf s1.heap S ts->s1.TypeIs (.ref S) "set":=λs1 h=>by
  obtain⟨o,_,_,_,ho,Hl,_⟩:=h;exact⟨o,ho,Hl.1⟩
 have fG:S<s.heap.objs.size:=by obtain⟨o,_,_,_,ho,_⟩:=hS;exact vX ho
 have QV:ts.length<scanBound:=by obtain⟨_,_,_,_,_,_,_,_,_,_,h,_⟩:=hS;exact h
 unfold collect;refine wX (wpAny_runValue (codeAny_builtin PySem.F.entry_proto_collect ?_));rw[Around.under_plainId PySem.F.plain_proto_collect _];show wpAny _ A.in1 (newList []>>=λl=>again (.builtin "list.__iadd__" ⟨[l,.ref S],[]⟩)) _ _ s;refine wX (wpAny_newObj_type ?_);refine wY ⟨plainId_quiet PySem.F.plain_list_iadd _,codeAny_builtin PySem.F.entry_list_iadd ?_⟩;rw[Around.under_plainId PySem.F.plain_list_iadd _];show wpAny _ A.in1 (Builtin.List.listExtendWith (.ref s.heap.objs.size) (.ref S) (.ref s.heap.objs.size)) _ _ _;unfold Builtin.List.listExtendWith;have Ud:jc kd kf (s.heap.push { cls:=.type "list",data:=.seq ([]:List Value).toArray }) S ts:=hS.at λo e=>vZ _ e;refine wX (wpAny_typeOf (Lp _ Ud) ?_);have Em:s.heap.objs.size≠S:=Nat.ne_of_gt fG;have h1:Builtin.List.listSameRef (.ref s.heap.objs.size) (.ref S)=false:=by simp[Builtin.List.listSameRef,Em]
 have h2:(Value.type "set" == Value.type "list")=false:=by decide
 have h3:(Value.type "set" == Value.type "tuple")=false:=by decide
 simp only[h1,h2,h3,Bool.or_false,uV,if_false];refine wX (Fj K0 (s:={ s with heap:=s.heap.push { cls:=.type "list",data:=.seq ([]:List Value).toArray } }) Ud λh' d it vs fp St W oU hk DX hfp Cy i6 GR=>?_);have QT:jc kd kf h' S ts:=Ud.at λo e=>hk _ _ e;refine wX (wpAny_holding ?_);unfold Builtin.List.listLengthHint;refine wX (wpAny_specialOf (Lp _ QT) PySem.F.slot_set_len.lookup ?_);wp_delta;refine wX (wpAny_isInstance (Lp _ QT) sub_set_self ?_);show wpAny _ A.in1 (typeOf (Value.ref S)>>=_) _ _ _;refine wX (wpAny_typeOf (Lp _ QT) ?_);refine wY ?_;rw[if_pos (by decide)];refine wX (wpAny_rule ?_);refine wX ?_;have QW:(s.heap.push { cls:=.type "list",data:=.seq ([]:List Value).toArray }).objs.size=s.heap.objs.size+1:=size_push' _ _;have VL:h'.get? s.heap.objs.size=some { cls:=.type "list",data:=.seq ([]:List Value).toArray }:=hk _ _ (vY _ rfl);show wpAny _ A.in1 (updateSeq s.heap.objs.size (·.push .none)>>=λ_=>updateSeq s.heap.objs.size (·.pop)) _ _ _;refine wX (wpAny_updateSeq VL rfl ?_);have VM:=Heap.get?_update_self (Obj.mapSeq (·.push Value.none)) VL rfl;refine wpAny_updateSeq VM rfl ?_;have Ya:=Heap.get?_update_self (Obj.mapSeq (·.pop)) VM rfl;have NO:s.heap.objs.size∉fp:=λhm=>by
  rcases hfp _ hm with z|z
  ·exact Em z
  ·rw[QW]at z;exact absurd z (Nat.not_succ_le_self _)
 have VN:∀b u,b≠s.heap.objs.size->h'.get? b=some u ->
   ((h'.update s.heap.objs.size (Obj.mapSeq (·.push Value.none))).update s.heap.objs.size (Obj.mapSeq (·.pop))).get? b=some u :=
  λb u hb e=>(Heap.get?_update_other _ _ (Ne.symm hb)).trans ((Heap.get?_update_other _ _ (Ne.symm hb)).trans e)
 have W0:=W A.in1 hh;refine wY ⟨plainId_quiet PySem.F.plain_extend_loop _,codeAny_extend_loopS W0.toS (fits_of_scanBound QV) _ NO _ ts.length 0 _ _ _ rfl (uN _)
  (W0.frame 0 _ _ oU λb hb u e=>VN b u (λz=>NO (z ▸ hb)) e) Ya (ItemsOf.nil _) λs' acc' c' hm hL' GX=>?_⟩
 show wpAny _ A (load s.heap.objs.size>>=_) _ _ s';refine wX (wpAny_load hL' ?_);rw[←Cy]at GX;refine wY ?_;show Q acc'.toList s';rw[Dj GX];refine hQ s' vs (λb u e=>hm.heap b u (λhb=>?_) (VN b u (vS (vX e)) (hk _ _ (vZ _ e)))) hm.gens hm.os Cy i6 GR;have hl:=vX e;simp only[List.mem_cons,List.not_mem_nil,or_false]at hb;rcases hb with rfl|rfl
 ·exact absurd hl (Nat.lt_irrefl _)
 ·rw[QW]at DX;exact absurd (vQ hl (Nat.le_of_succ_le DX)) (Nat.lt_irrefl _)
def xW (prog:Program)(w:World)(kf:Value->κ)(mk:κ->Tok->Value)(R:List κ->List Value->Prop):Prop:=∀ {E:Value->Shared->Prop}{ts:List κ}{vs:List Value}{A:Around}{s:Shared}{a:Addr}{P},(∀v∈vs,∃x t,v=mk x t)->(vs.map kf).Perm ts->vs.length<64 ->
 s.heap.get? a=some (seqObj "list" vs.toArray 0)->(∀out:Array Value,R ts out.toList->P (.done (.ret .none)) { s with heap:=sortedHeap s.heap a vs out })->wpAny (model prog w) A (Builtin.«list.sort» ⟨[.ref a],[]⟩) P E s
theorem As (K0:zT kd kf mk)(so:xW prog w kf mk R)(hh:A.handled=none)(hS:jc kd kf s.heap S ts)(DY:ts.length<64)
  (hQ:∀(s1:Shared)(h':Heap)(a:Addr)(out:Array Value)(n:Nat),(∀b u,s.heap.get? b=some u->s1.heap.get? b=some u)->s1.os=s.os->s1.gens=s.gens->(∀b u,s1.heap.get? b=some u->h'.get? b=some u)->s1.heap.objs.size<=a->h'.get? a=some (seqObj "list" out n) ->
   R ts out.toList->Q (.ref a) { s1 with heap:=h' }):
  wpAny (model prog w) A (call (.builtin "sorted") [.ref S]) Q E s:=by
 refine Calls.call_function_entry kind_sorted plain_sorted entry_sorted (args_sorted1 _) ?_;unfold Builtin.«sorted»;refine wX (m:=checkCount "sorted" 1 1 _) (wY ?_);refine wX (xV K0 (A:=A.in1) (by exact hh) hS λs1 vs hk hg JQ Cy i6 GR=>?_);refine wX (wpAny_newList ?_ (by rw[Cy,sizeLine_eq];omega));have JF:(s1.heap.push (seqObj "list" vs.toArray 0)).get? s1.heap.objs.size=some (seqObj "list" vs.toArray 0):=vY _ rfl;show wpAny _ _ _ _ _ { s1 with heap:=s1.heap.push (seqObj "list" vs.toArray 0) };refine wX (wpAny_holding (wpAny_call_entry slot_list_sort ⟨_,JF,rfl⟩ entry_list_sort (so GR i6 (by rw[Cy];exact DY) JF λout hr=>⟨_,rfl,?_⟩) (args_list_sort _)));obtain⟨e,he⟩:=sortedHeap_at (out:=out) JF;refine wY ⟨_,rfl,hQ s1 _ _ _ e hk JQ hg (λb u q=>?_) (vT _) he hr⟩;have hl:=vX q;rw[sortedHeap_old (vS hl) (by rw[size_push'];exact Nat.lt_succ_of_lt hl)];exact vZ _ q
end
end DL
namespace DL
open PySem PySem.Spec PyProof.Rows L2
def vy (a b:Str):Prop:=¬b.cps.toList<a.cps.toList
theorem Br:ltCps b.cps.toList a.cps.toList=false↔vy a b:=by rw[ltCps_eq,decide_eq_false_iff_not];rfl
theorem tz (h:vy a b)(k:vy b c):vy a c:=by
 unfold vy at *;exact List.not_lt.mpr (List.le_trans (List.not_lt.mp h) (List.not_lt.mp k))
theorem Fk (h:vy a b)(k:vy b a):a=b:=by
 have e:a.cps.toList=b.cps.toList:=List.le_antisymm (List.not_lt.mp h) (List.not_lt.mp k);obtain⟨a⟩:=a;obtain⟨b⟩:=b;have:a=b:=Array.toList_inj.mp e;rw[this]
noncomputable def Au (x:Str):List Str->List Str
 |[]=>[x]
 |y::r=>if ltCps y.cps.toList x.cps.toList then y::Au x r else x::y::r
noncomputable def jZ (l:List Str):List Str:=l.foldr Au []
theorem mW (x:Str):∀l,(Au x l).Perm (x::l)
 |[]=>List.Perm.refl _
 |y::r=>by
  unfold Au;split
  ·exact((mW x r).cons y).trans (List.Perm.swap x y r)
  ·exact List.Perm.refl _
theorem fN:∀l,(jZ l).Perm l
 |[]=>List.Perm.refl _
 |x::l=>(mW x (jZ l)).trans ((fN l).cons x)
theorem t6 (x:Str):∀l,l.Pairwise vy->(Au x l).Pairwise vy
 |[],_=>by simp[Au]
 |y::r,h=>by
  obtain⟨h1,h2⟩:=List.pairwise_cons.mp h;unfold Au;split
  ·rename_i hl;refine List.pairwise_cons.mpr ⟨λz hz=>?_,t6 x r h2⟩;rcases vP ((mW x r).mem_iff.mp hz)with rfl|hz
   ·rw[ltCps_eq,decide_eq_true_eq]at hl;exact λk=>List.lt_irrefl _ (List.lt_trans hl k)
   ·exact h1 z hz
  ·rename_i hl;rw[Bool.not_eq_true]at hl;have OH:vy x y:=Br.mp hl;refine List.pairwise_cons.mpr ⟨λz hz=>?_,h⟩;rcases vP hz with rfl|hz
   ·exact OH
   ·exact tz OH (h1 z hz)
theorem pQ:∀l,(jZ l).Pairwise vy
 |[]=>List.Pairwise.nil
 |x::l=>t6 x _ (pQ l)
theorem nY:∀(l:List Str)(p:Str),risingS p l=true->(p::l).Pairwise vy
 |[],p,_=>List.pairwise_singleton _ _
 |x::r,p,h=>by
  have h':(!ltCps x.cps.toList p.cps.toList && risingS x r)=true:=h;rw[vC]at h';have VO:vy p x:=Br.mp (by simpa using h'.1);have ih:=nY r x h'.2;refine List.pairwise_cons.mpr ⟨λz hz=>?_,ih⟩;rcases vP hz with rfl|hz
  ·exact VO
  ·exact tz VO ((List.pairwise_cons.mp ih).1 z hz)
theorem xX:∀(l:List Str),sortedS l=true->l.Pairwise vy
 |[],_=>List.Pairwise.nil
 |x::r,h=>nY r x h
theorem xY (a:Str):vy a a:=List.lt_irrefl _
theorem pR:∀(l1 l2:List Str),l1.Perm l2->l1.Pairwise vy->l2.Pairwise vy->l1=l2
 |[],l2,p,_,_=>(List.nil_perm.mp p).symm
 |x::r1,[],p,_,_=>absurd p.length_eq (by simp)
 |x::r1,y::r2,p,h1,h2=>by
  have OH:vy x y:=by
   rcases vP (p.mem_iff.mpr (mX ..))with z|z
   ·rw[z];exact xY _
   ·exact(List.pairwise_cons.mp h1).1 y z
  have Ue:vy y x:=by
   rcases vP (p.mem_iff.mp (mX ..))with z|z
   ·rw[z];exact xY _
   ·exact(List.pairwise_cons.mp h2).1 x z
  have e:=Fk OH Ue;subst e;rw[pR r1 r2 (List.Perm.cons_inv p) (List.pairwise_cons.mp h1).2 (List.pairwise_cons.mp h2).2]
theorem Dk (p:l'.Perm l)(h:sortedS l'=true):l'=jZ l:=pR _ _ (p.trans (fN l).symm) (xX _ h) (pQ l)
section
variable {X:Cx}
noncomputable def Fl {prog:Program}{w:World}{κ:Type}[DecidableEq κ](kd:PySem.KeyKind prog w κ)(kf:Value->κ)(S:Addr)(ts:List κ):HO:=.ext λh=>jc kd kf h S ts
theorem t7 (I:Inv X ae σ H s)(k:∀b u,s.heap.get? b=some u->s1.heap.get? b=some u)(ho:s1.os=s.os)(hg:s1.gens=s.gens):Inv X ae σ H s1:=by
 have I1:=I.step (g':=s.gens) (d':=s1.drawn) (t':=s1.toks) (h':=s1.heap) (H':=H) (ch:=[]) (λ_ z=>nomatch z) (λb o _ _ _ e _=>k b o e) (λb o _ _ _ e _=>⟨o.slots,k b o e⟩) (λ_ _ _ _ n=>n)
  (λb o _ e=>⟨o,k b o e⟩) (λ_ _ e=>e) (λ_ _ _ e=>e) (λ_ _ e=>e) (λm hm=>?_) (I.hok.kept k) I.bare
 ·obtain⟨h1,g1,d1,t1,o1⟩:=s1;cases ho;cases hg
  exact I1
 ·obtain⟨o,es,ep,ho,r⟩:=hm;exact⟨o,es,ep,k _ o ho,r⟩
variable {κ:Type}[DecidableEq κ] {kd:PySem.KeyKind X.prog X.w κ}{kf:Value->κ}{mk:κ->Tok->Value}{sf:List κ->List κ}{mv:κ->V}
def Fm (mk:κ->Tok->Value)(its:List Value)(ss:List κ):Prop:=its.length=ss.length/\∀(i:Nat)(v:Value),its[i]? = some v->∃x t,v=mk x t/\ss[i]? = some x
theorem xZ (K0:zT kd kf mk)(hc:X.calm=true):bQ X (.type "set") (λxs H Q=>∃p ys ss,xs=[.ref p]/\iA X.K H p ys/\(∀its,aT ys its->Fm mk its ss)/\ss.length<4000/\∀S,H S=none->Q (.ref S) (upd H S (Fl kd kf S (fH ss)))):=by
 intro ae s σ H xs us Q I r h;obtain⟨p,ys,ss,rfl,hq,hs,DY,q⟩:=h;obtain⟨u,rfl,rx⟩:=gP r;cases rx
 obtain⟨its,r',pl,hz⟩:=I.list hq;obtain⟨bF,oU⟩:=hs its r';refine si K0 (I.ok.hd hc) pl.isList (by simpa using oU) (by simp[bF]) (by simp only[vH];unfold scanBound;omega) λh' tk hS hk=>?_;refine⟨.ref s.heap.objs.size,_,I.laid (t':=tk) (λb u e=>hk b u (vX e) e) (vT _) ?_,rfl,q _ (I.hok.fresh (vT _))⟩;refine⟨hS,?_,λh1 h2 z k=>z.at k⟩;obtain⟨o,_,_,_,ho,_⟩:=hS;exact⟨o,ho⟩
theorem oM (K0:zT kd kf mk)(so:xW X.prog X.w kf mk λts=>aT ((sf ts).map mv))(sl:∀ts,(sf ts).length=ts.length)(hc:X.calm=true):bQ X (.builtin "sorted") (λxs H Q=>∃S ts,xs=[.ref S]/\H S=some (Fl kd kf S ts)/\ts.length<64/\∀l,H l=none->Q (.ref l) (upd H l (.lst ((sf ts).map mv)))):=by
 intro ae s σ H xs us Q I r h;obtain⟨S,ts,rfl,hS,DY,q⟩:=h;obtain⟨u,rfl,rx⟩:=gP r;cases rx
 refine As K0 so (I.ok.hd hc) (I.hok S _ hS).1 DY λs1 h' a out n k1 ho hg k2 hp he hv=>?_;have I1:=t7 I k1 ho hg;refine⟨.ref a,_,I1.laid (t':=s1.toks) k2 hp (show ce X.prog X.w _ h' _ (.lst _)from ⟨?_,out.toList,n,hv,he⟩),rfl,q _ (I1.hok.fresh hp)⟩;rw[vI,sl,sizeLine_eq];omega
end
theorem WI {prog:Program}{w:World}:zT (PySem.strKind prog w) strOf .str:=⟨strKind_is prog w,λh=>Value.isStrOf_shape h,λ_ _=>rfl,λ_ _=>rfl⟩
theorem t8:∀ {its:List Value}{zs:List Str},StrsAre its zs->aT (zs.map V.str) its
 |_,_,.nil=>.nil
 |_,_,.cons x t r=>.cons ⟨t,rfl⟩ (t8 r)
theorem WJ {prog:Program}{w:World}:xW prog w strOf .str λts=>aT ((jZ ts).map V.str):=λh1 h2 h3 ho h=>by
 have oU:=strsAre_map _ h1;refine list_sort_treeK strKind_oneLt ho oU.keysOf (λv₁ v₂ aC e=>keyKind_strs (by rw[←e];exact oU)) h3 λlO a1 a2=>?_;obtain⟨Zw,b1,b2,b3⟩:=sorted_out_str oU a1 a2;have e:=Dk (b2.trans h2) b3;subst e;exact h _ (t8 b1)
theorem Dl (ts:List Str):(jZ ts).length=ts.length:=(fN ts).length_eq
theorem StrsAre.keys (h:StrsAre its ss):Fm .str its ss:=⟨by rw[←h.strs,vI],StrsAre.at h⟩
@[simp] def gY:D->OB
 |.lst ds=>(gB ds).bind λss=>if ss.length<64 then some (.lst ((jZ (fH ss)).map .str),true)else none
 |_=>none
@[simp] def RE:D->OB
 |.lst ds=>(gB ds).bind λss=>if ss.length<4000 then some (.int ((fH ss).length:Nat),false)else none
 |_=>none
theorem ya:bootBuiltins "sorted" = some (.builtin "sorted"):=by decide +kernel
theorem Qe:bootBuiltins "set" = some (.type "set"):=by decide +kernel
theorem yc {K:Frag}{N:Hp}:∀(zs:List Str),IsL K N (zs.map V.str) (zs.map D.str)
 |[]=>.nil
 |z::zs=>.cons (.str z) (yc zs)
@[simp] def ye {κ:Type}[DecidableEq κ](ef:List D->Option (List κ))(sf:List κ->List κ)(md:κ->D):D->OB
 |.lst ds=>(ef ds).bind λss=>if ss.length<64 then some (.lst ((sf (fH ss)).map md),true)else none
 |_=>none
section
variable {X:Cx}{e:Expr}{pos pos2 p p2:Pos}{κ:Type}[DecidableEq κ] {kd:PySem.KeyKind X.prog X.w κ}{kf:Value->κ}{mk:κ->Tok->Value}{sf:List κ->List κ}{mv:κ->V}{md:κ->D}{ef:List D->Option (List κ)}
theorem yf (K0:zT kd kf mk)(so:xW X.prog X.w kf mk λts=>aT ((sf ts).map mv))(sl:∀ts,(sf ts).length=ts.length)(im:∀ {N:Hp}(zs:List κ),IsL X.K N (zs.map mv) (zs.map md))(ka:∀ {B ys ds its ss},aT ys its->IsL X.K B ys ds->ef ds=some ss->Fm mk its ss)
  (hc:X.calm=true) (m1:X.mg "sorted" = none) (m2:X.mg "set" = none) (he:JE X e f) (g1:Gl X "sorted":=by rfl) (g2:Gl X "set":=by rfl)
  (h1:starEach [e] X.env=(false,eval e X.env)::starEach [] X.env:=by rfl):JE X (.Call (.Name "sorted" p) [.Call (.Name "set" p2) [e] [] pos2] [] pos) (f1 (ye ef sf md) f):=by
 refine PE.to (xc (oM K0 so sl hc) g1 m1 ya (iF (sL (xZ K0 hc) g2 m2 Qe (iF he jR h1) (he:=h1)) jR)) λσ H Q q=>?_;obtain⟨B,ρ,d',bb,sB,r,ee,q⟩:=q;obtain⟨x1,ex,ee⟩:=oX ee;refine⟨B,ρ,x1.1,x1.2,sB,r,ex,λv H1 N1 xt i1 fr=>?_⟩;obtain⟨xd,xb⟩:=x1;cases i1<;>try (simp[ye]at ee;done)
 rename_i l0 vs ds h hl;simp only[ye]at ee;obtain⟨ss,ez,ee⟩:=oX ee;split at ee
 ·rename_i DY;cases ee
  refine⟨_,_,ss,rfl,xt.nh.seq h,λits r'=>ka r' hl ez,by omega,λS hS=>⟨S,_,rfl,aE,Nat.lt_of_le_of_lt (ml ss) DY,λl DS=>?_⟩⟩;have x2:=Ext.laid (o:=Fl kd kf S (fH ss)) xt.nh hS;have x3:=Ext.laid (o:=.lst ((sf (fH ss)).map mv)) x2.nh DS;have Yc:H l=none:=((xt.trans x2).hh).free DS;exact q _ _ _ ((xt.trans x2).trans x3) (.lst (iA.of aE) (im _)) λ_=>⟨_,_,_,rfl,rfl,Yc,aE,im _⟩
 ·cases ee
theorem pT (hc:X.calm=true)(m1:X.mg "sorted" = none)(m2:X.mg "set" = none)(he:JE X e f)(g1:Gl X "sorted":=by rfl)(g2:Gl X "set":=by rfl)
  (h1:starEach [e] X.env=(false,eval e X.env)::starEach [] X.env:=by rfl):JE X (.Call (.Name "sorted" p) [.Call (.Name "set" p2) [e] [] pos2] [] pos) (f1 gY f):=by
 rw[show gY=ye gB jZ .str from funext λd=>by cases d<;>rfl]
 exact yf WI WJ Dl yc (λr' hl ez=>StrsAre.keys (jY r' hl ez)) hc m1 m2 he g1 g2 h1
end
end DL
namespace DL
open PySem PySem.Spec PySem.W PyProof.Rows
inductive Run (n:Nat)(lt:Nat->Nat->Bool){α:Type}:KasT α->α->Prop where
 |ret (a:α):Run n lt (.ret a) a
 |ask {i j:Nat}{k:Bool->KasT α}{a:α}(hi:i<n) (hj:j<n) (h:Run n lt (k (lt i j)) a):Run n lt (.ask i j k) a
theorem Run.bind {n:Nat}{lt:Nat->Nat->Bool}{α β:Type}{t:KasT α}{f:α->KasT β}{a:α}{b:β}(h:Run n lt t a)(k:Run n lt (f a) b):Run n lt (t.bind f) b:=by
 induction h with
 |ret a=>exact k
 |ask hi hj _ ih=>exact .ask hi hj (ih k)
theorem Run.wp {n:Nat}{lt:Nat->Nat->Bool}{α:Type}{VP:Nat->Nat->(Bool->Shared->Prop)->Shared->Prop}{Q:α->Shared->Prop}{t:KasT α}{a:α}(J:Shared->Prop)
  (hc:∀i j C s,i<n->j<n->J s->(∀s',J s'->C (lt i j) s')->VP i j C s) (h:Run n lt t a):∀ {s:Shared},J s->(∀s',J s'->Q a s')->t.kasWp VP Q s:=by
 induction h with
 |ret a=>intro s hJ hQ;exact hQ s hJ
 |ask hi hj _ ih=>intro s hJ hQ;exact hc _ _ _ _ hi hj hJ λs' hJ'=>ih hJ' hQ
section
variable {n:Nat}{rk:Nat->Int}
noncomputable abbrev pU (rk:Nat->Int)(i j:Nat):Bool:=decide (rk i<rk j)
noncomputable def cn (rk:Nat->Int)(p:Array Nat)(k:Nat):Int:=rk (p.getD k 0)
structure oV (n:Nat)(p:Array Nat):Prop where
 size:p.size=n
 perm:p.toList.Perm (List.range n)
theorem oV.lt {p:Array Nat}(h:oV n p){k:Nat}(hk:k<n):p.getD k 0<n:=by
 have fJ:k<p.size:=by rw[h.size];exact hk
 have:p.getD k 0=p[k]:=by rw[Array.getD_eq_getD_getElem?,Array.getElem?_eq_getElem fJ];rfl
 rw[this];exact List.mem_range.mp (h.perm.mem_iff.mp (by simp))
theorem oV.rev {p:Array Nat}(h:oV n p)(i j:Nat):oV n (kas_rev p i j) :=
 ⟨(mirror_size _ _ _ _).trans h.size,(Array.perm_iff_toList_perm.mp (mirror_perm p i j _)).trans h.perm⟩
theorem oV.bub {p:Array Nat}(h:oV n p)(k d:Nat):oV n (bubble p k d) :=
 ⟨(bubble_size _ _ _).trans h.size,(Array.perm_iff_toList_perm.mp (bubble_perm p k d)).trans h.perm⟩
theorem vz {p:Array Nat}{i j:Nat}(hj:j<=p.size)(k:Nat):cn rk (kas_rev p i j) k=if i<=k/\k<j then cn rk p (i+j - 1 - k)else cn rk p k:=by
 unfold cn kas_rev;rw[Array.getD_eq_getD_getElem?,getElem?_mirror_all hj];split<;>rw[Array.getD_eq_getD_getElem?]
theorem Fo {p:Array Nat}{src d:Nat}(hs:src<p.size)(hd:d<=src)(k:Nat):cn rk (bubble p src d) k=if k=src - d then cn rk p src else if src - d<k/\k<=src then cn rk p (k - 1)else cn rk p k:=by
 unfold cn;simp only[Array.getD_eq_getD_getElem?];rw[getElem?_bubble hs d hd];repeat' split
 all_goals rfl
def Up (rk:Nat->Int)(p:Array Nat)(m:Nat):Prop:=∀i j,i<=j->j<m->cn rk p i<=cn rk p j
def wa (rk:Nat->Int)(p:Array Nat)(m:Nat):Prop:=∀i j,i<=j->j<m->cn rk p j<=cn rk p i
theorem MT (p:Array Nat):Up rk p 1:=λi j h1 h2=>by
 have:i=j:=by omega
 subst this;exact Int.le_refl _
theorem wb {p:Array Nat}(h:oV n p){r:Nat}(hr:r<=n):∀(f m:Nat),r - m=f->1<=m->m<=r->Up rk p m->∃m',Run n (pU rk) (kas_asc p f m) m'/\m<=m'/\m'<=r/\Up rk p m'/\(m'<r->cn rk p m'<cn rk p (m' - 1))
 |0,m,hf,h1,hm,hu=>⟨m,.ret m,vT _,hm,hu,λz=>by omega⟩
 |f+1,m,hf,h1,hm,hu=>by
  have a1:=h.lt (k:=m) (by omega);have a2:=h.lt (k:=m - 1) (by omega);by_cases hc:cn rk p m<cn rk p (m - 1)
  ·refine⟨m,.ask a1 a2 ?_,vT _,hm,hu,λ_=>hc⟩;have:pU rk (p.getD m 0) (p.getD (m - 1) 0)=true:=decide_eq_true hc;rw[this,if_pos rfl];exact .ret m
  ·have Kc:Up rk p (m+1):=λi j Cz hj=>by
    by_cases e:j=m
    ·subst e;by_cases e2:i=j
     ·subst e2;exact Int.le_refl _
     ·have:=hu i (j - 1) (by omega) (by omega);omega
    ·exact hu i j Cz (by omega)
   obtain⟨m',q1,q2,q3,q4,q5⟩:=wb h hr f (m+1) (by omega) (by omega) (by omega) Kc;refine⟨m',.ask a1 a2 ?_,by omega,q3,q4,q5⟩;have:pU rk (p.getD m 0) (p.getD (m - 1) 0)=false:=decide_eq_false hc;rw[this,if_neg uX];exact q1
def IE (rk:Nat->Int)(p:Array Nat)(m q:Nat):Prop:=q+1<=m/\∀k,m - (q+1)<=k->k<m->cn rk p k=cn rk p (m - 1)
theorem yg {p:Array Nat}{m q:Nat}(hs:m<=p.size)(hf:IE rk p m q)(k:Nat):cn rk (kas_rev p (m - (q+1)) m) k=cn rk p k:=by
 rw[vz hs];split
 ·rename_i hk;have h0:=hf.1;rw[hf.2 k hk.1 hk.2,hf.2 _ (by omega) (by omega)]
 ·rfl
theorem Bt {p p':Array Nat}{m:Nat}(e:∀k,cn rk p' k=cn rk p k)(h:wa rk p m):wa rk p' m:=λi j h1 h2=>by rw[e,e];exact h i j h1 h2
theorem pV (p:Array Nat){m:Nat}(h:1<=m):IE rk p m 0:=⟨h,λk h1 h2=>by
 have:k=m - 1:=by omega
 rw[this]⟩
theorem mn {r:Nat}(hr:r<=n):∀(f:Nat)(p:Array Nat)(m q:Nat),oV n p->r - m=f->1<=m->m<=r->wa rk p m->IE rk p m q->∃p' m' q',Run n (pU rk) (kas_desc f p m q) (p',m',q')/\oV n p'/\m<=m'/\m'<=r/\wa rk p' m'/\IE rk p' m' q'
 |0,p,m,q,h,hf,h1,hm,hd,hq=>⟨p,m,q,.ret _,h,vT _,hm,hd,hq⟩
 |f+1,p,m,q,h,hf,h1,hm,hd,hq=>by
  have a1:=h.lt (k:=m) (by omega);have a2:=h.lt (k:=m - 1) (by omega);have step:∀p':Array Nat,(∀k,cn rk p' k=cn rk p k)->cn rk p m<=cn rk p (m - 1)->wa rk p' (m+1):=λp' e GS i j Cz hj=>by
   rw[e,e];by_cases z:j=m
   ·subst z;by_cases z2:i=j
    ·subst z2;exact Int.le_refl _
    ·have:=hd i (j - 1) (by omega) (by omega);omega
   ·exact hd i j Cz (by omega)
  by_cases hc:cn rk p m<cn rk p (m - 1)
  ·have zx:pU rk (p.getD m 0) (p.getD (m - 1) 0)=true:=decide_eq_true hc;by_cases hq0:q > 0
   ·have e:=yg (p:=p) (by rw[h.size];omega) hq;obtain⟨p',m',q',g1,g2,g3,g4,g5,g6⟩:=mn hr f (kas_rev p (m - (q+1)) m) (m+1) 0 (h.rev _ _) (by omega) (by omega) (by omega) (step _ e (by omega)) (pV _ (by omega));refine⟨p',m',q',.ask a1 a2 ?_,g2,by omega,g4,g5,g6⟩;rw[zx,if_pos rfl,if_pos hq0];exact g1
   ·obtain⟨p',m',q',g1,g2,g3,g4,g5,g6⟩:=mn hr f p (m+1) 0 h (by omega) (by omega) (by omega) (step _ (λ_=>rfl) (by omega)) (pV _ (by omega));refine⟨p',m',q',.ask a1 a2 ?_,g2,by omega,g4,g5,g6⟩;rw[zx,if_pos rfl,if_neg hq0];exact g1
  ·have zx:pU rk (p.getD m 0) (p.getD (m - 1) 0)=false:=decide_eq_false hc;by_cases Cu:cn rk p (m - 1)<cn rk p m
   ·have NV:pU rk (p.getD (m - 1) 0) (p.getD m 0)=true:=decide_eq_true Cu;refine⟨p,m,q,.ask a1 a2 ?_,h,vT _,hm,hd,hq⟩;rw[zx,if_neg uX];refine .ask a2 a1 ?_;rw[NV,if_pos rfl];exact .ret _
   ·have NV:pU rk (p.getD (m - 1) 0) (p.getD m 0)=false:=decide_eq_false Cu;have he:cn rk p m=cn rk p (m - 1):=by omega
    obtain⟨p',m',q',g1,g2,g3,g4,g5,g6⟩:=mn hr f p (m+1) (q+1) h (by omega) (by omega) (by omega) (step _ (λ_=>rfl) (by omega)) ⟨by have:=hq.1;omega,λk k1 k2=>by
     rw[Nat.add_sub_cancel];by_cases z:k=m
     ·rw[z]
     ·rw[hq.2 k (by omega) (by omega),he]⟩
    refine⟨p',m',q',.ask a1 a2 ?_,g2,by omega,g4,g5,g6⟩;rw[zx,if_neg uX];refine .ask a2 a1 ?_;rw[NV,if_neg uX];exact g1
theorem yh {r:Nat}(hr:r<=n){p:Array Nat}(h:oV n p){m:Nat}(h1:1<=m)(hm:m<=r)(hd:wa rk p m):∃m' p',Run n (pU rk) (kas_tail3 m r p) (m',p')/\oV n p'/\1<=m'/\m'<=r/\Up rk p' m':=by
 have hu:Up rk (kas_rev p 0 m) m:=λi j Cz hj=>by
  rw[vz (by rw[h.size];omega),vz (by rw[h.size];omega),if_pos (by omega),if_pos (by omega)];exact hd _ _ (by omega) (by omega)
 obtain⟨m',q1,q2,q3,q4,_⟩:=wb (h.rev 0 m) hr (r - m) m rfl h1 hm hu;exact⟨m',_,q1.bind (.ret _),h.rev 0 m,by omega,q3,q4⟩
theorem yi {r:Nat}(hr:r<=n){p:Array Nat}(h:oV n p){m:Nat}(hm:m+1<=r)(hd:wa rk p (m+1)):∃m' p',Run n (pU rk) (kas_descPart m r p) (m',p')/\oV n p'/\1<=m'/\m'<=r/\Up rk p' m':=by
 obtain⟨p1,m1,q1,g1,g2,g3,g4,g5,g6⟩:=mn hr (r - (m+1)) p (m+1) 0 h rfl (by omega) hm hd (pV _ (by omega));by_cases hq:q1 > 0
 ·obtain⟨m',p',k1,k2,k3,k4,k5⟩:=yh hr (g2.rev (m1 - (q1+1)) m1) (m:=m1) (by omega) g4 (Bt (yg (by rw[g2.size];omega) g6) g5);exact⟨m',p',g1.bind (by dsimp only;rw[if_pos hq];exact k1),k2,k3,k4,k5⟩
 ·obtain⟨m',p',k1,k2,k3,k4,k5⟩:=yh hr g2 (m:=m1) (by omega) g4 g5;exact⟨m',p',g1.bind (by dsimp only;rw[if_neg hq];exact k1),k2,k3,k4,k5⟩
theorem Dm {p:Array Nat}(h:oV n p)(hn:1<=n):∃m' p',Run n (pU rk) (kas_count n p) (m',p')/\oV n p'/\1<=m'/\m'<=n/\Up rk p' m':=by
 obtain⟨m,q1,q2,q3,q4,q5⟩:=wb h (vT n) (n - 1) 1 rfl (vT 1) hn (MT (rk:=rk) p);by_cases e:m=n
 ·exact⟨m,p,q1.bind (by rw[if_pos (by simp[e])];exact .ret _),h,q2,q3,q4⟩
 ·have fG:=q5 (by omega);have e1:¬(m == n)=true:=by simp[e]
  by_cases OI:m > 1
  ·by_cases hc:cn rk p 0<cn rk p (m - 1)
   ·refine⟨m,p,q1.bind ?_,h,q2,q3,q4⟩;rw[if_neg e1,if_pos OI];refine .ask (h.lt (by omega)) (h.lt (by omega)) ?_;have:pU rk (p.getD 0 0) (p.getD (m - 1) 0)=true:=decide_eq_true hc;rw[this,if_pos rfl];exact .ret _
   ·have mO:∀k,k<m->cn rk p k=cn rk p 0:=λk hk=>by
     have z1:=q4 0 k (by omega) hk;have z2:=q4 k (m - 1) (by omega) (by omega);omega
    have er:∀k,cn rk (kas_rev p 0 m) k=cn rk p k:=λk=>by
     rw[vz (by rw[h.size];omega)];split
     ·rename_i z;rw[mO _ (by omega),mO k z.2]
     ·rfl
    have hd:wa rk p (m+1):=λi j Cz hj=>by
     by_cases z:j=m
     ·subst z;by_cases z2:i=j
      ·subst z2;exact Int.le_refl _
      ·rw[mO i (by omega)];rw[mO (j - 1) (by omega)]at fG;omega
     ·rw[mO i (by omega),mO j (by omega)];exact Int.le_refl _
    obtain⟨m',p',k1,k2,k3,k4,k5⟩:=yi (vT n) (h.rev 0 m) (m:=m) (by omega) (Bt er hd);refine⟨m',p',q1.bind ?_,k2,k3,k4,k5⟩;rw[if_neg e1,if_pos OI];refine .ask (h.lt (by omega)) (h.lt (by omega)) ?_;have:pU rk (p.getD 0 0) (p.getD (m - 1) 0)=false:=decide_eq_false hc;rw[this,if_neg uX];exact k1
  ·have em:m=1:=by omega
   subst em;have hd:wa rk p 2:=λi j Cz hj=>by
    by_cases z2:i=j
    ·subst z2;exact Int.le_refl _
    ·have:i=0:=by omega
     have:j=1:=by omega
     subst_vars;have:=fG;simp at this;omega
   obtain⟨m',p',k1,k2,k3,k4,k5⟩:=yi (vT n) h (m:=1) (by omega) hd;refine⟨m',p',q1.bind ?_,k2,k3,k4,k5⟩;rw[if_neg e1,if_neg OI];exact k1
theorem ng {p:Array Nat}(h:oV n p){k:Nat}(hk:k<n)(hu:Up rk p k):∀(f l r:Nat),r - l<=f->l<=r->r<=k->(∀i,i<l->cn rk p i<=cn rk p k)->(∀i,r<=i->i<k->cn rk p k<cn rk p i) ->
  ∃l',Run n (pU rk) (kas_place p k f l r) l'/\l'<=k/\(∀i,i<l'->cn rk p i<=cn rk p k)/\(∀i,l'<=i->i<k->cn rk p k<cn rk p i)
 |0,l,r,hf,hl,hr,h1,h2=>⟨l,.ret l,by omega,h1,λi a b=>h2 i (by omega) b⟩
 |f+1,l,r,hf,hl,hr,h1,h2=>by
  by_cases hge:l ≥ r
  ·refine⟨l,?_,by omega,h1,λi a b=>h2 i (by omega) b⟩;unfold kas_place;rw[if_pos hge];exact .ret l
  ·by_cases hc:cn rk p k<cn rk p ((l+r) / 2)
   ·obtain⟨l',q1,q2,q3,q4⟩:=ng h hk hu f l ((l+r) / 2) (by omega) (by omega) (by omega) h1 λi a b=>by
     have:=hu ((l+r) / 2) i a b;omega
    refine⟨l',?_,q2,q3,q4⟩;unfold kas_place;rw[if_neg hge];refine .ask (h.lt (by omega)) (h.lt (by omega)) ?_;have:pU rk (p.getD k 0) (p.getD ((l+r) / 2) 0)=true:=decide_eq_true hc;rw[this,if_pos rfl];exact q1
   ·obtain⟨l',q1,q2,q3,q4⟩:=ng h hk hu f ((l+r) / 2+1) r (by omega) (by omega) hr (λi a=>by
     have:=hu i ((l+r) / 2) (by omega) (by omega);omega) h2
    refine⟨l',?_,q2,q3,q4⟩;unfold kas_place;rw[if_neg hge];refine .ask (h.lt (by omega)) (h.lt (by omega)) ?_;have:pU rk (p.getD k 0) (p.getD ((l+r) / 2) 0)=false:=decide_eq_false hc;rw[this,if_neg uX];exact q1
theorem Bu:∀(f:Nat)(p:Array Nat)(k:Nat),oV n p->n - k=f->k<=n->Up rk p k->∃p',Run n (pU rk) (kas_bin f p k) p'/\oV n p'/\Up rk p' n
 |0,p,k,h,hf,hk,hu=>⟨p,.ret p,h,(show k=n by omega) ▸ hu⟩
 |f+1,p,k,h,hf,hk,hu=>by
  have fJ:k<n:=by omega
  obtain⟨l,q1,q2,q3,q4⟩:=ng h fJ hu k 0 k (by omega) (by omega) (vT _) (λi z=>by omega) (λi a b=>by omega);have hsz:k<p.size:=by rw[h.size];exact fJ
  have Kc:Up rk (bubble p k (k - l)) (k+1):=λi j Cz hj=>by
   rw[Fo hsz (by omega),Fo hsz (by omega)];have e:k - (k - l)=l:=by omega
   rw[e];by_cases i1:i=l
   ·rw[if_pos i1];by_cases j1:j=l
    ·rw[if_pos j1];exact Int.le_refl _
    ·rw[if_neg j1,if_pos (by omega)];have:=q4 (j - 1) (by omega) (by omega);omega
   ·rw[if_neg i1];by_cases i2:l<i/\i<=k
    ·rw[if_pos i2,if_neg (by omega),if_pos (by omega)];exact hu _ _ (by omega) (by omega)
    ·rw[if_neg i2];by_cases j1:j=l
     ·rw[if_pos j1];exact q3 i (by omega)
     ·rw[if_neg j1];by_cases j2:l<j/\j<=k
      ·rw[if_pos j2];exact hu _ _ (by omega) (by omega)
      ·rw[if_neg j2];exact hu _ _ Cz (by omega)
  obtain⟨p',k1,k2,k3⟩:=Bu f (bubble p k (k - l)) (k+1) (h.bub _ _) (by omega) (by omega) Kc;exact⟨p',q1.bind k1,k2,k3⟩
theorem Fp (hn:1<=n):∃p,Run n (pU rk) (kas_sort n) p/\oV n p/\Up rk p n:=by
 have h0:oV n (List.toArray (List.range n)):=⟨by simp,by simp⟩;obtain⟨m,p,q1,q2,q3,q4,q5⟩:=Dm (rk:=rk) h0 hn;by_cases e:m<n
 ·have Yd:max m 1=m:=by omega
  obtain⟨p',k1,k2,k3⟩:=Bu (n - max m 1) p (max m 1) q2 rfl (by omega) (by rw[Yd];exact q5);exact⟨p',q1.bind (by dsimp only;rw[if_pos e];exact k1),k2,k3⟩
 ·have:m=n:=by omega
  subst this;exact⟨p,q1.bind (by dsimp only;rw[if_neg e];exact .ret _),q2,q5⟩
end
theorem kF {a b c:List Int}(h:a<b)(k:b<c):a<c:=List.lt_trans h k
theorem Dn {a b c:List Int}(h:¬b<a)(k:¬c<b):¬c<a:=List.not_lt.mpr (List.le_trans (List.not_lt.mp h) (List.not_lt.mp k))
theorem Fq {a b:List Int}(h:¬b<a)(k:¬a<b):a=b:=List.le_antisymm (List.not_lt.mp h) (List.not_lt.mp k)
section
variable {α:Type}(f:α->List Int)
def Fs (a b:α):Prop:=¬f b<f a
noncomputable def nj (x:α):List α->List α
 |[]=>[x]
 |y::r=>if f y<f x then y::nj x r else x::y::r
noncomputable def eC (l:List α):List α:=l.foldr (nj f) []
theorem nn (x:α):∀l,(nj f x l).Perm (x::l)
 |[]=>List.Perm.refl _
 |y::r=>by
  unfold nj;split
  ·exact((nn x r).cons y).trans (List.Perm.swap x y r)
  ·exact List.Perm.refl _
theorem bg:∀l,(eC f l).Perm l
 |[]=>List.Perm.refl _
 |x::l=>(nn f x (eC f l)).trans ((bg l).cons x)
theorem t9 (x:α):∀l,l.Pairwise (Fs f)->(nj f x l).Pairwise (Fs f)
 |[],_=>by simp[nj]
 |y::r,h=>by
  obtain⟨h1,h2⟩:=List.pairwise_cons.mp h;unfold nj;split
  ·rename_i hl;refine List.pairwise_cons.mpr ⟨λz hz=>?_,t9 x r h2⟩;rcases vP ((nn f x r).mem_iff.mp hz)with rfl|hz
   ·exact λk=>List.lt_irrefl _ (kF hl k)
   ·exact h1 z hz
  ·rename_i hl;refine List.pairwise_cons.mpr ⟨λz hz=>?_,h⟩;rcases vP hz with rfl|hz
   ·exact hl
   ·exact Dn hl (h1 z hz)
theorem dI:∀l,(eC f l).Pairwise (Fs f)
 |[]=>List.Pairwise.nil
 |x::l=>t9 f x _ (dI l)
theorem tE:∀(l1 l2:List α),(∀x∈l1,∀y∈l1,f x=f y->x=y)->l1.Perm l2->l1.Pairwise (Fs f)->l2.Pairwise (Fs f)->l1=l2
 |[],l2,_,p,_,_=>(List.nil_perm.mp p).symm
 |x::r1,[],_,p,_,_=>absurd p.length_eq (by simp)
 |x::r1,y::r2,hi,p,h1,h2=>by
  have hy:y∈x::r1:=p.mem_iff.mpr (mX ..);have OH:Fs f x y:=by
   rcases vP hy with z|z
   ·rw[z];exact List.lt_irrefl _
   ·exact(List.pairwise_cons.mp h1).1 y z
  have Ue:Fs f y x:=by
   rcases vP (p.mem_iff.mp (mX ..))with z|z
   ·rw[z];exact List.lt_irrefl _
   ·exact(List.pairwise_cons.mp h2).1 x z
  have e:x=y:=hi x (mX ..) y hy (Fq OH Ue);subst e;rw[tE r1 r2 (λa ha b hb=>hi a (mZ _ ha) b (mZ _ hb)) (List.Perm.cons_inv p) (List.pairwise_cons.mp h1).2 (List.pairwise_cons.mp h2).2]
theorem jd (hi:∀x∈l,∀y∈l,f x=f y->x=y)(p:l'.Perm l)(h:l'.Pairwise (Fs f)):l'=eC f l :=
 tE f _ _ (λx hx y hy=>hi x (p.mem_iff.mp hx) y (p.mem_iff.mp hy)) (p.trans (bg f l).symm) h (dI f l)
end
theorem lC {α:Type}{p q:α->Bool}(h:∀x,p x=true->q x=true):∀l:List α,(l.filter p).length<=(l.filter q).length
 |[]=>vT _
 |x::l=>by
  have ih:=lC h l;rw[List.filter_cons,List.filter_cons];by_cases z:p x=true
  ·rw[if_pos z,if_pos (h x z)];simp only[vE];omega
  ·rw[if_neg z];split
   ·simp only[vE];omega
   ·exact ih
noncomputable def mo (cs:List (List Int))(c:List Int):Int:=((cs.filter λx=>decide (x<c)).length:Nat)
theorem IF {cs:List (List Int)}{a b:List Int}(h:¬b<a):mo cs a<=mo cs b:=by
 unfold mo;refine Int.ofNat_le.mpr (lC (λx hx=>?_) cs);rw[decide_eq_true_eq]at hx ⊢;rcases List.le_iff_lt_or_eq.mp (List.not_lt.mp h)with z|z
 ·exact kF hx z
 ·rw[←z];exact hx
theorem Bv {cs:List (List Int)}{a b:List Int}(ha:a∈cs)(h:a<b):mo cs a<mo cs b:=by
 unfold mo;apply Int.ofNat_lt.mpr;induction cs with
 |nil=>simp at ha
 |cons c cs ih=>
  have key:∀l:List (List Int),(l.filter λx=>decide (x<a)).length<=(l.filter λx=>decide (x<b)).length:=λl=>
   lC (λx hx=>by rw[decide_eq_true_eq]at hx ⊢;exact kF hx h) l
  rw[List.filter_cons,List.filter_cons];rcases vP ha with rfl|ha
  ·rw[if_neg (by simp[List.lt_irrefl]),if_pos (by simpa using h)];have:=key cs;simp only[vE];omega
  ·have:=ih ha;by_cases z:c<a
   ·rw[if_pos (by simpa using z),if_pos (by simpa using kF z h)];simp only[vE];omega
   ·rw[if_neg (by simpa using z)];split
    ·simp only[vE];omega
    ·exact this
theorem yj (ha:a∈cs):decide (mo cs a<mo cs b)=decide (a<b):=by
 by_cases h:a<b
 ·rw[decide_eq_true h,decide_eq_true (Bv ha h)]
 ·rw[decide_eq_false h,decide_eq_false];have:=IF (cs:=cs) h;omega
inductive At where
 |i (n:Int)
 |s (z:Str)
noncomputable def MU:At->List Int
 |.i n=>[n]
 |.s z=>z.cps.toList.map (λ(c:Nat)=>(c:Int)+1)++[0]
noncomputable def cD (xs:List At):List Int:=xs.flatMap MU
noncomputable def ba:List At->List At->Option Bool
 |[],ys=>some (!ys.isEmpty)
 |_::_,[]=>some false
 |.i a::xs,.i b::ys=>if a=b then ba xs ys else some (decide (a<b))
 |.s a::xs,.s b::ys=>if a=b then ba xs ys else some (decide (a.cps.toList<b.cps.toList))
 |_::_,_::_=>none
theorem wc:∀(a b:List Nat)(r r':List Int),(a.map (λ(c:Nat)=>(c:Int)+1)++0::r)<(b.map (λ(c:Nat)=>(c:Int)+1)++0::r')↔a<b∨(a=b/\r<r')
 |[],[],r,r'=>by simp[List.cons_lt_cons_iff]
 |[],y::b,r,r'=>by simp[List.cons_lt_cons_iff]
 |x::a,[],r,r'=>by simp[List.cons_lt_cons_iff];omega
 |x::a,y::b,r,r'=>by
  rw[uY,uY,List.cons_append,List.cons_append,List.cons_lt_cons_iff,wc a b r r',List.cons_lt_cons_iff];constructor
  ·rintro (h|⟨h,k|⟨k1,k2⟩⟩)
   ·exact .inl (.inl (by omega))
   ·exact .inl (.inr ⟨by omega,k⟩)
   ·exact .inr ⟨by rw[k1,show x=y by omega],k2⟩
  ·rintro ((h|⟨h,k⟩)|⟨h,k⟩)
   ·exact .inl (by omega)
   ·exact .inr ⟨by omega,.inl k⟩
   ·injection h with h1 h2;exact .inr ⟨by omega,.inr ⟨h2,k⟩⟩
theorem je (x:At)(xs:List At):cD (x::xs)=MU x++cD xs:=by unfold cD;rw[uO]
theorem MV (x:At):MU x≠[]:=by cases x<;>simp[MU]
theorem Bw {a b:Str}:a.cps.toList=b.cps.toList↔a=b:=by
 constructor
 ·intro h;obtain⟨a⟩:=a;obtain⟨b⟩:=b;have:a=b:=Array.toList_inj.mp h;rw[this]
 ·rintro rfl;rfl
theorem pe:∀(xs ys:List At)(b:Bool),ba xs ys=some b->b=decide (cD xs<cD ys)
 |[],[],b,h=>by simp[ba]at h;subst h;simp[cD]
 |[],y::ys,b,h=>by
  simp[ba]at h;subst h;rw[je];cases e:MU y with
  |nil=>exact absurd e (MV y)
  |cons c cs=>simp[cD]
 |x::xs,[],b,h=>by simp[ba]at h;subst h;simp[cD]
 |.i a::xs,.i c::ys,b,h=>by
  rw[ba]at h;rw[je,je];show b=decide (a::cD xs<c::cD ys);split at h
  ·rename_i e;subst e;rw[pe xs ys b h];exact decide_eq_decide.mpr (by rw[List.cons_lt_cons_iff];simp)
  ·rename_i e;cases h
   exact decide_eq_decide.mpr (by rw[List.cons_lt_cons_iff];simp[e])
 |.s a::xs,.s c::ys,b,h=>by
  rw[ba]at h;rw[je,je];have e0:∀(z:Str)(r:List Int),MU (.s z)++r=z.cps.toList.map (λ(c:Nat)=>(c:Int)+1)++0::r:=λz r=>by simp[MU]
  rw[e0,e0];split at h
  ·rename_i e;subst e;rw[pe xs ys b h];exact decide_eq_decide.mpr (by rw[wc];exact⟨λz=>.inr ⟨rfl,z⟩,λz=>z.elim (λq=>absurd q (List.lt_irrefl _)) (·.2)⟩)
  ·rename_i e;cases h
   exact decide_eq_decide.mpr (by rw[wc,Bw];exact⟨.inl,λz=>z.elim id λq=>absurd q.1 e⟩)
 |.i _::_,.s _::_,b,h=>by simp[ba]at h
 |.s _::_,.i _::_,b,h=>by simp[ba]at h
theorem Av:∀(xs ys:List At),ba xs ys=some false->ba ys xs=some false->xs=ys
 |[],[],_,_=>rfl
 |[],y::ys,h,_=>by simp[ba]at h
 |x::xs,[],_,h=>by simp[ba]at h
 |.i a::xs,.i c::ys,h,k=>by
  rw[ba]at h k;by_cases e:a=c
  ·subst e;rw[if_pos rfl]at h k;rw[Av xs ys h k]
  ·rw[if_neg e]at h;rw[if_neg (Ne.symm e)]at k;simp at h k;omega
 |.s a::xs,.s c::ys,h,k=>by
  rw[ba]at h k;by_cases e:a=c
  ·subst e;rw[if_pos rfl]at h k;rw[Av xs ys h k]
  ·rw[if_neg e]at h;rw[if_neg (Ne.symm e)]at k;simp only[Option.some.injEq,decide_eq_false_iff_not]at h k;exact absurd (Bw.mp (List.le_antisymm (List.not_lt.mp k) (List.not_lt.mp h))) e
 |.i _::_,.s _::_,h,_=>by simp[ba]at h
 |.s _::_,.i _::_,h,_=>by simp[ba]at h
noncomputable def eD (ks:List (List At)):Bool:=ks.all λx=>ks.all λy=>(ba x y).isSome
theorem gM (h:eD ks=true)(hx:x∈ks)(hy:y∈ks):ba x y=some (decide (cD x<cD y)):=by
 have:=uR (uR h x hx) y hy;obtain⟨b,e⟩:=uU this;rw[e,pe _ _ _ e]
theorem np (h:eD ks=true)(hx:x∈ks)(hy:y∈ks)(e:cD x=cD y):x=y:=by
 refine Av _ _ ?_ ?_
 ·rw[gM h hx hy,e,decide_eq_false (List.lt_irrefl _)]
 ·rw[gM h hy hx,e,decide_eq_false (List.lt_irrefl _)]
def zB:At->Value->Prop
 |.i n,v=>∃t,v=.int n t
 |.s z,v=>∃t,v=.str z t
def gZ (h:Heap)(xs:List At)(v:Value):Prop:=∃a o its n,v=.ref a/\h.get? a=some o/\o.cls=.type "tuple"/\o.data=.seq its n/\Paired zB xs its.toList
noncomputable def fu (ks:List (List At)):Bool:=ks.all (λx=>match x with|.i _::_=>true|_=>false) || ks.all (λx=>match x with|.s _::_=>true|_=>false)
section
variable {prog:Program}{w:World}{A:Around}{E:Value->Shared->Prop}{s:Shared}
theorem pW:∀(xs ys:List At)(its gu:List Value)(i:Nat),Paired zB xs its->Paired zB ys gu->ba xs ys=some b->kX=decide (xs.length<ys.length)->Q b s->KatLex prog w A true kX Q (its.zip gu) i s
 |[],ys,_,gu,i,.nil,r2,h,hf,q=>by
  rw[List.zip_nil_left];refine kat_nil ?_;cases ys with
  |nil=>simp[ba]at h;subst h;rw[hf];exact q
  |cons y ys=>simp[ba]at h;subst h;rw[hf];simpa using q
 |x::xs,[],_,_,i,_,.nil,h,hf,q=>by
  rw[List.zip_nil_right];refine kat_nil ?_;simp[ba]at h;subst h;rw[hf];simpa using q
 |.i a::xs,.i c::ys,_,_,i,.cons r1 GQ,.cons r2 r2',h,hf,q=>by
  obtain⟨t,rfl⟩:=r1;obtain⟨u,rfl⟩:=r2;rw[List.zip_cons_cons];refine kat_cons (wpAny_eqBool_int ?_);rw[ba]at h;by_cases e:a=c
  ·rw[if_pos e]at h;rw[show(a == c)=true by simp[e]];exact kat_yes (pW xs ys _ _ (i+1) GQ r2' h (by rw[hf];simp) q)
  ·rw[if_neg e]at h;cases h
   rw[show(a == c)=false by simp[e]];refine kat_no ?_;cases hb:(true && i == 0) with
   |true=>exact oneLt_int q
   |false=>exact kat_one _ _ (PyProof.Rows.lt_int q)
 |.s a::xs,.s c::ys,_,_,i,.cons r1 GQ,.cons r2 r2',h,hf,q=>by
  obtain⟨t,rfl⟩:=r1;obtain⟨u,rfl⟩:=r2;rw[List.zip_cons_cons];refine kat_cons (wpAny_eqBool_str ?_);rw[ba]at h;by_cases e:a=c
  ·rw[if_pos e]at h;rw[decide_eq_true e];exact kat_yes (pW xs ys _ _ (i+1) GQ r2' h (by rw[hf];simp) q)
  ·rw[if_neg e]at h;cases h
   rw[decide_eq_false e];refine kat_no ?_;cases hb:(true && i == 0) with
   |true=>exact oneLt_str q
   |false=>exact kat_one _ _ (PySem.P.lt_str q)
 |.i _::_,.s _::_,_,_,_,_,_,h,_,_=>by simp[ba]at h
 |.s _::_,.i _::_,_,_,_,_,_,h,_,_=>by simp[ba]at h
theorem fO {α β:Type}{F:α->β->Prop}:∀ {l₁:List α}{l₂:List β},Paired F l₁ l₂->l₁.length=l₂.length
 |_,_,.nil=>rfl
 |_,_,.cons _ t=>by simp[fO t]
theorem MW {Q:Bool->Shared->Prop}{xs ys:List At}{x y:Value}{b:Bool}(hx:gZ s.heap xs x)(hy:gZ s.heap ys y)(h:ba xs ys=some b)(q:Q b s):wpAny (model prog w) A (keyLt' (tuples' true) x y) Q E s:=by
 obtain⟨a,o,its,n,rfl,ho,_,hd,r⟩:=hx;obtain⟨a',o',its',n',rfl,oR,_,AN,r'⟩:=hy;refine kat_lt ho hd oR AN (pW xs ys _ _ 0 r r' h ?_ q);rw[←vG,←vG,fO r,fO r']
theorem nZ:∀ {ks:List (List At)}{vs:List Value},Paired (gZ h) ks vs->(∀k∈ks,k≠[])->∃fs,KatTups h vs fs/\fs.length=ks.length/\∀v∈fs,∃k r,(k::r)∈ks/\zB k v
 |_,_,.nil,_=>⟨[],trivial,rfl,by simp⟩
 |k::ks,_,.cons x t,nQ=>by
  obtain⟨fs,h1,h2,h3⟩:=nZ t λz hz=>nQ z (mZ _ hz);obtain⟨a,o,its,n,rfl,ho,hc,hd,r⟩:=x;cases r':its.toList with
  |nil=>
   rw[r']at r;cases r
   exact absurd rfl (nQ [] (mX ..))
  |cons v vs=>
   rw[r']at r;obtain⟨p,r1⟩:∃p,its[0]? = some v:=⟨(),by rw[←Array.getElem?_toList,r'];rfl⟩;cases r with
   |cons q qs=>
    rename_i k0 kr;refine⟨v::fs,KatTups.cons ho hc hd r1 h1,by simp[h2],λu hu=>?_⟩;rcases vP hu with rfl|hu
    ·exact⟨k0,kr,mX ..,q⟩
    ·obtain⟨k1,r1,m1,m2⟩:=h3 u hu;exact⟨k1,r1,mZ _ m1,m2⟩
theorem Ft (hp:Paired (gZ s.heap) ks vs)(hf:fu ks=true)(hn:0<ks.length)(q:Q (tuples' true) s):wpAny (model prog w) A (keyKind' vs.toArray) Q E s:=by
 have nQ:∀k∈ks,k≠[]:=λk hk z=>by
  subst z;unfold fu at hf;rw[Bool.or_eq_true]at hf;rcases hf with hf|hf
  ·have:=uR hf [] hk;simp at this
  ·have:=uR hf [] hk;simp at this
 obtain⟨fs,h1,h2,h3⟩:=nZ hp nQ;unfold fu at hf;rw[Bool.or_eq_true]at hf;rcases hf with hf|hf
 ·refine kat_kind (T:=.type "int") h1 (by omega) (λv hv=>?_) (by decide) q;obtain⟨k,r,m,z⟩:=h3 v hv;have:=uR hf _ m;cases k with
  |i n=>obtain⟨t,rfl⟩:=z;exact .now
  |s z'=>simp at this
 ·refine kat_kind (T:=.type "str") h1 (by omega) (λv hv=>?_) (by decide) q;obtain⟨k,r,m,z⟩:=h3 v hv;have:=uR hf _ m;cases k with
  |s z'=>obtain⟨t,rfl⟩:=z;exact .now
  |i n=>simp at this
end
section
variable {prog:Program}{w:World}{A:Around}{E:Value->Shared->Prop}{s:Shared}
theorem eV {α β:Type}{F:α->β->Prop}(d:α)(e:β):∀ {l₁:List α}{l₂:List β},Paired F l₁ l₂->∀ {i:Nat},i<l₁.length->F (l₁.getD i d) (l₂.getD i e)
 |_,_,.cons r t,0,_=>r
 |_,_,.cons r t,i+1,h=>by
  simp only[List.getD_cons_succ];exact eV d e t (by simpa using h)
 |_,_,.nil,i,h=>by simp at h
def Hi (ks:List (List At))(i:Nat):Int:=mo (ks.map cD) (cD (ks.getD i []))
theorem IG {ks:List (List At)}{vs:List Value}(hc:eD ks=true)(hp:Paired (gZ s.heap) ks vs):∀(i j:Nat)(C:Bool->Shared->Prop)(s1:Shared),i<ks.length->j<ks.length->s1=s->(∀s',s'=s->C (pU (Hi ks) i j) s')->kas_ask prog w A (tuples' true) vs i j C s1:=by
 intro i j C s1 hi hj e hC;subst e;unfold kas_ask;have mi:ks.getD i []∈ks:=by rw[vF,vU hi];exact List.getElem_mem hi
 have mj:ks.getD j []∈ks:=by rw[vF,vU hj];exact List.getElem_mem hj
 refine MW (eV [] Value.none hp hi) (eV [] Value.none hp hj) (gM hc mi mj) ?_;have:=hC s1 rfl;unfold pU Hi at this;rw[yj (uS ⟨_,mi,rfl⟩)]at this;exact this
end
end DL
namespace DL
open PySem PySem.Spec PySem.W PyProof.Rows L2
noncomputable def KW:D->Option At
 |.int n=>some (.i n)
 |.str z=>some (.s z)
 |_=>none
def eW:List D->Option (List At)
 |[]=>some []
 |d::ds=>(KW d).bind λa=>(eW ds).map (a :: ·)
def yk:D->Option (List At)
 |.tup es=>eW es
 |_=>none
def dz:List D->Option (List (List At))
 |[]=>some []
 |d::ds=>(yk d).bind λa=>(dz ds).map (a :: ·)
noncomputable def mq:List D->Option (List Int)
 |[]=>some []
 |.int n::ds=>(mq ds).map (n :: ·)
 |_::_=>none
def gD (ns:List Int):List Int:=eC (λn=>[n]) ns
theorem kG:∀ {ds:List D}{ks:List (List At)},dz ds=some ks->ks.length=ds.length
 |[],_,h=>by simp only[dz]at h;cases h;rfl
 |d::ds,_,h=>by
  simp only[dz]at h;obtain⟨a,h1,h⟩:=oX h;obtain⟨r,h2,h⟩:=oY h;subst h;simp[kG h2]
theorem tF:∀ {ds:List D}{ks:List (List At)},dz ds=some ks->∀ {i:Nat},i<ds.length->yk (ds.getD i .non)=some (ks.getD i [])
 |[],_,h,i,hi=>by simp at hi
 |d::ds,_,h,0,hi=>by
  simp only[dz]at h;obtain⟨a,h1,h⟩:=oX h;obtain⟨r,h2,h⟩:=oY h;subst h;exact h1
 |d::ds,_,h,i+1,hi=>by
  simp only[dz]at h;obtain⟨a,h1,h⟩:=oX h;obtain⟨r,h2,h⟩:=oY h;subst h;simp only[List.getD_cons_succ];exact tF h2 (by simpa using hi)
section
variable {X:Cx}
theorem ym {K:Frag}{B:Hp}:∀ {vs:List V}{es:List D}{k:List At}{its:List Value},aT vs its->IsL K B vs es->eW es=some k->Paired zB k its
 |_,_,_,_,.nil,.nil,h=>by simp only[eW]at h;cases h;exact .nil
 |_,_,_,_,.cons r rr,.cons i ii,h=>by
  simp only[eW]at h;obtain⟨a,h1,h⟩:=oX h;obtain⟨t,h2,h⟩:=oY h;subst h;refine .cons ?_ (ym rr ii h2);cases i<;>simp only[KW]at h1<;>cases h1
  ·exact r
  ·exact r
theorem ph {ae:List (Addr×Obj)}{σ:St}{H:Hp}{s:Shared}(I:Inv X ae σ H s):∀ {ys:List V}{ds:List D}{ks:List (List At)}{its:List Value},aT ys its->IsL X.K H ys ds->dz ds=some ks->Paired (gZ s.heap) ks its
 |_,_,_,_,.nil,.nil,h=>by simp only[dz]at h;cases h;exact .nil
 |_,_,_,_,.cons r rr,.cons i ii,h=>by
  simp only[dz]at h;obtain⟨a,h1,h⟩:=oX h;obtain⟨t,h2,h⟩:=oY h;subst h;refine .cons ?_ (ph I rr ii h2);cases i<;>simp only[yk]at h1<;>try (cases h1;done)
  rename_i hq hl;cases r
  obtain⟨its',r',⟨o,ho,hc,n,hd⟩,_⟩:=I.tuple hq;exact⟨_,o,_,n,rfl,ho,hc,hd,by simpa using ym r' hl h1⟩
theorem By {K:Frag}{B:Hp}:∀ {vs:List V}{ds:List D},IsL K B vs ds->∀ {i:Nat},i<ds.length->Is K B (vs.getD i .non) (ds.getD i .non)
 |_,_,.cons h _,0,_=>h
 |_,_,.cons _ t,i+1,hi=>by
  simp only[List.getD_cons_succ];exact By t (by simpa using hi)
 |_,_,.nil,i,hi=>by simp at hi
theorem yn:∀ {vs:List V}{us:List Value},aT vs us->∀ {i:Nat},i<vs.length->aX (vs.getD i .non) (us.getD i Value.none)
 |_,_,.cons h _,0,_=>h
 |_,_,.cons _ t,i+1,hi=>by
  simp only[List.getD_cons_succ];exact yn t (by simpa using hi)
 |_,_,.nil,i,hi=>by simp at hi
theorem yo {K:Frag}{B:Hp}{vs:List V}{ds:List D}(h:IsL K B vs ds):∀(l:List Nat),(∀i∈l,i<ds.length)->IsL K B (l.map λi=>vs.getD i .non) (l.map λi=>ds.getD i .non)
 |[],_=>.nil
 |i::l,hl=>.cons (By h (hl i (mX ..))) (yo h l λj hj=>hl j (mZ _ hj))
theorem tG (h:aT vs us):∀(l:List Nat),(∀i∈l,i<vs.length)->aT (l.map λi=>vs.getD i .non) (l.map λi=>us.getD i Value.none)
 |[],_=>.nil
 |i::l,hl=>.cons (yn h (hl i (mX ..))) (tG h l λj hj=>hl j (mZ _ hj))
end
section
variable {X:Cx}
theorem Bz {K:Frag}{B:Hp}:∀ {vs:List V}{ds:List D}{ns:List Int}{its:List Value},aT vs its->IsL K B vs ds->mq ds=some ns->IntsAre its ns
 |_,_,_,_,.nil,.nil,h=>by simp only[mq]at h;cases h;exact .nil
 |_,_,_,_,.cons r rr,.cons i ii,h=>by
  cases i<;>simp only[mq]at h<;>try (cases h;done)
  obtain⟨t,h2,h⟩:=oY h;subst h;obtain⟨u,rfl⟩:=r;exact .cons _ u (Bz rr ii h2)
theorem gL:∀ {its:List Value}{zs:List Int},IntsAre its zs->aT (zs.map V.int) its
 |_,_,.nil=>.nil
 |_,_,.cons x t r=>.cons ⟨t,rfl⟩ (gL r)
theorem mr {K:Frag}{N:Hp}:∀(zs:List Int),IsL K N (zs.map V.int) (zs.map D.int)
 |[]=>.nil
 |z::zs=>.cons (.int z) (mr zs)
theorem yp (p:l'.Perm l)(h:l'.Pairwise (·<=·)):l'=gD l:=by
 refine jd _ (λx _ y _ e=>by injection e) p (h.imp λ{a b} hab=>?_);unfold Fs;intro z;rw[List.cons_lt_cons_iff]at z;rcases z with z|⟨_,z⟩
 ·omega
 ·exact List.lt_irrefl _ z
end
end DL
namespace DL
open PySem PySem.Spec PyProof.Rows L2
section
variable {X:Cx}{pos:Pos}
@[simp] def WK (i:Nat)(f:FE):FS:=λρ=>match ρ[i]? with
 |some (some (.lst ds,true))=>(f ρ).bind λx=>(mq ds).bind λns=>match x.1 with
  |.int n=>if ns.findIdx (· == n)<ns.length then some (.nx (ρ.set i (some (.lst ((ns.eraseIdx (ns.findIdx (· == n))).map .int),true))))else none
  |_=>none
 |_=>none
end
section
variable {prog:Program}{w:World}{A:Around}{E:Value->Shared->Prop}{s:Shared}
theorem Aw {a:Addr}{o:Obj}{its:Array Value}{n:Nat}{x:Value}{e:Value->Bool}{j:Nat}{P:PySem.Fin->Shared->Prop}(ho:s.heap.get? a=some o)(hd:o.data=.seq its n)
  (he:∀y∈its,MeetsSeq.EqGives y x (e y)) (hj:j<its.size) (DX:e its[j]=true) (O9:∀m (hm:m<its.size),m<j->e its[m]=false)
  (h:P (.done (.ret (.int j s.toks))) { s with toks:=s.toks+1 }):wpAny (model prog w) A (Builtin.«tuple.index» ⟨[.ref a,x],[]⟩) P E s:=by
 show wpAny _ _ (Builtin.Tuple.tupleItemsOf (.ref a)>>=_) _ _ s;refine wX (wpAny_tupleItemsOf ho hd ?_);dsimp only;refine wX (wY (wX (wY (wX ?_))));rw[Std.Legacy.Range.forIn_eq_forIn_range'];refine wpAny_forIn_list _
  (λaC r s'=>r.1=none/\s'=s/\∃i,i<=j/\aC=List.range' i (its.size - i))
  _ ?_ ?_ _ _ ⟨rfl,rfl,0,uN _,?_⟩
 ·rintro k aC r s' ⟨hr,rfl,i,hi,hz⟩;have fG:i<its.size:=by omega
  obtain⟨m,hm⟩:∃m,its.size - i=m+1:=⟨its.size - i - 1,by omega⟩;rw[hm,List.range'_succ]at hz;injection hz with z1 z2;have z1:=z1.symm;subst z1;subst z2;have hg:its[i]? = some its[i]:=by simp[fG]
  simp only[hg];refine wX (he _ (Array.getElem_mem fG) prog w _ _ _ _ ?_);by_cases Cz:i=j
  ·subst Cz;rw[DX];simp only[if_true];refine wX ?_;show wpAny _ _ (mkInt (i:Int)>>=λv=>ret v) _ _ _;exact wX (wpAny_mkInt (wY (wY (wY h))))
  ·rw[O9 i fG (by omega)];simp only[uV,if_false];exact wY ⟨rfl,rfl,i+1,by omega,by rw[show its.size - (i+1)=m by omega]⟩
 ·rintro⟨r1,r2⟩ s' ⟨hr,rfl,i,hi,hz⟩;exfalso;have:(List.range' i (its.size - i)).length=0:=by rw[←hz];rfl
  rw[List.length_range']at this;omega
 ·simp
end
theorem CRows.findT {K:Frag}{P:Params}(y:Str){ds:List D}:∀ {es:List DictEntry}{aI:List (Str×D)},CRows K P es aI->aI.lookup y=some (.tup ds) ->
  ∃e a its n oC,es.find? (λe=>Value.isStrOf y e.key)=some e/\e.val=.ref a/\K.lookup a=some ⟨.type "tuple",none,.seq its n,oC⟩/\jz its.toList ds=true
 |_,_,.nil,h=>by simp at h
 |_,_,.tup (x:=x) (t:=t) (a:=a) (ds:=JV) hh l f tl,h=>by
  by_cases e:y=x
  ·subst e;rw[List.lookup_cons_self]at h;cases h
   rw[vC]at f;exact⟨_,a,_,_,_,List.find?_cons_of_pos (by simp[Value.isStrOf]),rfl,l,f.2⟩
  ·rw[List.lookup_cons,beq_eq_false_iff_ne.mpr e]at h;have nf:Value.isStrOf y (Value.str x t)=false:=by
    rw[Bool.eq_false_iff];intro z;obtain⟨t',q⟩:=Value.isStrOf_shape z;injection q with q1;exact e q1.symm
   simp only[List.find?_cons,nf];exact tl.findT y h
 |_,_,.flat (x:=x) (t:=t) (u:=u) (d:=d) hh f tl,h=>by
  by_cases e:y=x
  ·subst e;rw[List.lookup_cons_self]at h;cases h
   cases u<;>simp[vp]at f
  ·rw[List.lookup_cons,beq_eq_false_iff_ne.mpr e]at h;have nf:Value.isStrOf y (Value.str x t)=false:=by
    rw[Bool.eq_false_iff];intro z;obtain⟨t',q⟩:=Value.isStrOf_shape z;injection q with q1;exact e q1.symm
   simp only[List.find?_cons,nf];exact tl.findT y h
section
variable {X:Cx}{b e:Expr}{pos:Pos}{x:Str}{p:Pos}
def Ta (K:Frag):V->List V->Hp->VK->Prop:=λx xs H Q=>∃(a:Addr)(o:Obj)(its:Array Value)(n:Nat)(zs:List Str)(y:Str),x=.ref a/\xs=[.str y]/\K.lookup a=some o/\o.cls=.type "tuple"/\o.data=.seq its n/\StrsAre its.toList zs/\zs.findIdx (· == y)<zs.length/\Q (.int (zs.findIdx (· == y):Nat)) H
noncomputable def KY (y:Str):Value->Bool
 |.str z _=>z == y
 |_=>false
theorem B1:∀ {its:List Value}{zs:List Str},StrsAre its zs->∀(i:Nat)(hi:i<its.length),∃(h:i<zs.length)(t:Tok),its[i]=.str zs[i] t
 |_,_,.cons z t h,0,_=>⟨by simp,t,rfl⟩
 |_,_,.cons z t h,i+1,hi=>by
  obtain⟨h',t',e⟩:=B1 h i (by simpa using hi);exact⟨by simpa using h',t',by simpa using e⟩
 |_,_,.nil,i,hi=>by simp at hi
theorem yq:∀ {its:List Value}{zs:List Str},StrsAre its zs->its.length=zs.length
 |_,_,.nil=>rfl
 |_,_,.cons _ _ h=>by rw[vE,vE,yq h]
theorem Fu:HL X "tuple.index" (Ta X.K):=by
 intro ae s σ H x xs v us Q I rx rv h;obtain⟨a,o,its,n,zs,y,rfl,rfl,lk,hc,hd,hz,hk,q⟩:=h;cases rx
 obtain⟨u,rfl,⟨t,rfl⟩⟩:=rv.one;have ho:=I.kIn a o lk;have hl:=yq hz;rw[vG]at hl;have at':∀(i:Nat)(hi:i<its.size),∃(h:i<zs.length)(t:Tok),its[i]=.str zs[i] t:=λi hi=>by
  obtain⟨h',t',e⟩:=B1 hz i (by simpa using hi);exact⟨h',t',by simpa using e⟩
 refine wpAny_call_entry PySem.F.slot_tuple_index ⟨o,ho,hc⟩ PySem.F.entry_tuple_index (Aw (e:=KY y) (j:=zs.findIdx (· == y)) ho hd (λz hm=>?_) (by omega) ?_ (λm hm fG=>?_) ⟨_,rfl,.int (zs.findIdx (· == y):Nat),H,I.tok _,⟨_,rfl⟩,q⟩) (PySem.F.args_tuple_index_2 _ _)
 ·obtain⟨i,hi,rfl⟩:=Array.mem_iff_getElem.mp hm;obtain⟨_,t',e'⟩:=at' i hi;rw[e'];exact eqGives_str _ _ _ _
 ·obtain⟨_,t',e'⟩:=at' (zs.findIdx (· == y)) (by omega);rw[e'];exact List.findIdx_getElem (p:=(· == y)) (w:=hk)
 ·obtain⟨_,t',e'⟩:=at' m hm;rw[e'];have:=List.not_of_lt_findIdx (p:=(· == y)) (xs:=zs) fG;simpa [KY]using this
@[simp] def oN (aI:List (Str×D)):D->D->OB
 |.str y,.str z=>match aI.lookup y with
  |some (.tup ds)=>(gB ds).bind λzs=>if zs.findIdx (· == z)<zs.length then some (.int (zs.findIdx (· == z):Nat),false)else none
  |_=>none
 |_,_=>none
theorem IH {aI:List (Str×D)}{f g:FE}{dw cA:Pos}(h:∃d,X.mg x=some (.ref d)/\sY X.K X.w.params d aI)(hb:JE X b f)(he:JE X e g)(hg:Gl X x:=by rfl)(sx:(x == ("__debug__" : Str))=false:=by decide)(hs:uB b:=by intro _ _;rfl)
  (iw:attributeBase (.Subscript (.Name x p) b pos) "index" X.env (eval (.Subscript (.Name x p) b pos) X.env)=eval (.Subscript (.Name x p) b pos) X.env:=by rfl)
  (AO:((backTo cA (starEach [e] X.env)).all (λx=>!x.1) && (backToKw cA (keywordEach [] X.env)).all (λx=>x.1.isSome)
   && decide ([e].length+([]:List Keyword).length+(if([]:List Keyword).isEmpty then 0 else 1)<30))=true:=by rfl)
  (iz:(dw.endLine == cA.line)=true:=by rfl) (oU:starEach [e] X.env=[(false,eval e X.env)]:=by rfl):
  JE X (.Call (.Attribute (.Subscript (.Name x p) b pos) "index" dw) [e] [] cA) (f2 (oN aI) f g):=by
 obtain⟨d,hm,cd⟩:=h;have ix:Hd X (λx y H Q=>∃z ds,x=.ref d/\y=.str z/\aI.lookup z=some (.tup ds)/\∀a its n oC,X.K.lookup a=some ⟨.type "tuple",none,.seq its n,oC⟩->jz its.toList ds=true->Q (.ref a) H):=by
  intro value slice ae s σ H x y v u Q I rx ry q hs;obtain⟨z,ds,rfl,rfl,el,q⟩:=q;cases rx
  obtain⟨t,rfl⟩:=ry;obtain⟨es,n,l,r,sm⟩:=cd;have hM:=PySem.W.mapOf_K (prog:=X.prog) (w:=X.w) I.kIn l r.lit;obtain⟨en,a,its,n',oC,e1,e2,e3,e4⟩:=r.findT z el;have ff:findBy Value.isStrOf es z=some (.ref a):=by
   unfold findBy;obtain⟨es⟩:=es;rw[List.find?_toArray,e1,←e2];rfl
  exact tail_any hM.typeIs slot_dict_getitem.lookup (wpAny_getItem_of (strKind_is X.prog X.w z t) hM ff ⟨.ref a,H,I.tok _,rfl,q a _ _ _ e3 e4⟩) hs
 refine PE.to (E1 (T:="tuple") PySem.F.plainAttrs_tuple PySem.F.slot_tuple_index PySem.F.type_tuple_index Fu (Ko ix (AT (v:=.ref d) hg hm rfl sx) hb hs) (iF he jR oU) iw AO iz oU rfl) λσ H Q q=>?_;obtain⟨B,ρ,d',bb,sB,r,ee,q⟩:=q;obtain⟨x1,ex,ee⟩:=oX ee;obtain⟨y1,ey,ee⟩:=oX ee;obtain⟨xd,xb⟩:=x1;obtain⟨yd,yb⟩:=y1;cases xd with
 |str z=>
  cases yd with
  |str y=>
   refine⟨B,ρ,_,xb,sB,r,ex,λv H1 N1 xt i1 _=>?_⟩;cases i1
   simp only[oN]at ee;split at ee
   ·rename_i ds el;obtain⟨zs,ez,ee⟩:=oX ee;split at ee
    ·rename_i hk;cases ee
     refine⟨z,ds,rfl,rfl,el,λa its n oC l fl=>⟨.inr (.inl ⟨rfl,_,l,rfl,rfl⟩),N1,ρ,_,yb,xt.nh,r.mono xt.bn,ey,λv2 H2 N2 QO i2 _=>?_⟩⟩;cases i2
     obtain⟨vs,rv,iv⟩:=j0 (K:=X.K) fl;exact⟨a,_,its,n,zs,y,rfl,rfl,l,rfl,rfl,jY rv (iv N2) ez,hk,(q.into (xt.trans QO)).one QO.nh (.int _)⟩
    ·cases ee
   ·cases ee
  |_=>simp[oN]at ee
 |_=>simp[oN]at ee
end
open PySem.W (tabIn tabObj CodeHd kla_fn kla_obj kla_eval kla_makeFunction kla_makeFunctionHit kla_callFunE kla_codeExpr envX)
def Qf (K:Frag)(c P:Addr):Prop:=∃o vs DZ tf uu tg OJ Ea tt,K.lookup c=some o/\o.cls=.type "code"/\o.data=.fields vs/\vs[11]? = some (.ref P)/\vs.getD 11 .none=.ref P/\vs.getD 18 .none=.str DZ tf /\
 vs.getD 7 .none=.int uu tg/\vs.getD 9 .none=.bool OJ/\vs.getD 10 .none=.int Ea tt/\c≠P
def Ax (K:Frag)(x:Str):Prop:=∃c P,tabIn K x=some (c,P)/\Qf K c P
def Fv (H:Hp)(f:Addr)(q:Str)(params:Arguments)(body:Expr)(scope:Scope)(cl:List (Str×Addr)):Prop :=
 ∃pm c C0 u oc u' vs t,H f=some (.frz (kla_obj "<lambda>" q params body scope cl pm c C0) u)/\H c=some (.frz oc u')/\oc.data=.fields vs/\vs[1]? = some (.str q t)
theorem Fv.mono (h:Fv H f q params body scope cl)(e:aU H H'):Fv H' f q params body scope cl :=
 let ⟨pm,c,C0,u,oc,u',vs,t,h1,h2,h3,h4⟩:=h;⟨pm,c,C0,u,oc,u',vs,t,e _ _ h1,e _ _ h2,h3,h4⟩
theorem lam_mk {K:Frag}{x:Str}{f c P:Addr}{oc:Value}{od TN:Option Addr}{oC NH:Array (Option Value)}{fd:FuncData}{vs:Array Value}{DZ:Str}{tf tg tt:Tok}{uu Ea:Int}{OJ:Bool}(e1:nsIn K mainGlobals x=some (some (.ref f)))(e2:K.lookup f=some ⟨oc,od,.func fd,oC⟩)
  (e3:fd.code=.ref c) (e4:K.lookup c=some ⟨.type "code",TN,.fields vs,NH⟩) (e5:vs[11]? = some (.ref P)) (e6:vs.getD 11 .none=.ref P) (e7:vs.getD 18 .none=.str DZ tf) (e8:vs.getD 7 .none=.int uu tg) (e9:vs.getD 9 .none=.bool OJ) (Ye:vs.getD 10 .none=.int Ea tt) (VQ:(c == P)=false):Ax K x :=
 ⟨c,P,tab_yes e1 e2 e3 e4 e5,_,vs,DZ,tf,uu,tg,OJ,Ea,tt,e4,rfl,rfl,e5,e6,e7,e8,e9,Ye,λz=>by rw[z]at VQ;simp at VQ⟩
theorem Ay (l:List Value)(h:TriplesOk l)(e:codeAmong pos (l++[rawInt a,rawInt b,c])=some cv):codeAmong pos l=some cv∨cv=c:=by
 fun_induction TriplesOk l with
 |case1=>
  simp only[List.nil_append,rawInt,codeAmong]at e;split at e
  ·cases e;exact .inr rfl
  ·cases e
 |case2 a' t b' u x aC ih=>
  simp only[List.cons_append,codeAmong]at e ⊢;split at e
  ·rename_i hc;rw[if_pos hc];exact .inl e
  ·rename_i hc;rw[if_neg hc];exact ih h e
 |case3 l h1 h2=>exact h.elim
section
variable {X:Cx}{ae:List (Addr×Obj)}{σ:St}{H:Hp}{s:Shared}
theorem Fw 
  (hx:x∈lV) (L:Ax X.K x) (hc:∀c P,tabIn X.K x=some (c,P)->X.env.code=.ref c) (hq:X.env.qual ++ "<lambda>" = pA x) (NW:defaultsOf params X.env=([],[])) (zx:closureFor scope X.env=pure cl)
  (I:Inv X ae σ H s) (tb:Tb X.K H) (k:∀f H' s',Inv X ae σ H' s'->aU H H'->Fv H' f (pA x) params body scope cl->Q (.ref f) s'):
  wq X (eval (.Lambda params body scope pos) X.env) Q E s:=by
 refine kla_eval NW ?_;rw[hq];obtain⟨c,P,ht,o,vs,DZ,tf,uu,tg,OJ,Ea,tt,lk,ck⟩:=L;have Lv:=hc c P ht;have hP:=tb x hx c P ht;obtain⟨ps,e,tr,co⟩:=I.hok P _ hP;have C:CodeHd s.heap c P:=⟨o,vs,DZ,tf,uu,tg,OJ,Ea,tt,I.kIn c o lk,ck⟩;have hg:s.heap.Ns mainGlobals X.mg:=I.mod.glob.keeps I.bk;have nP:∀b,H b=none->b≠P:=λb n z=>by rw[z,hP]at n;cases n
 have Yf:mainGlobals≠P:=by
  obtain⟨og,_,_,eg,_⟩:=I.mod.glob;exact nP _ (I.bs _ _ eg).2
 have hb:s.heap.BuiltinsAt X.mg P:=by
  obtain⟨bm,ob,b1,b2,b3,b4,b5,b6⟩:=I.mod.bmain;refine⟨bm,ob,b1,b2,λz=>?_,nP _ (I.bs _ _ b3).2,I.bk _ _ b3,b4,b5,b6⟩;obtain⟨og,es,ep,eg,dg,_⟩:=I.mod.glob;rw[z,eg]at b3;cases b3;rw[dg]at b6;cases b6
 cases hf:codeAmong pos ps.toList with
 |some cv=>
  obtain⟨c',oc,u,ws,t,rfl,hH,hd,hv⟩:=co pos cv hf;refine kla_makeFunctionHit (mg:=X.mg) zx I.ok.glob hg Lv C e tr hf hb λC0 h' tk hk hsz=>?_;have hn:H h'.objs.size=none:=I.hok.fresh hsz;have sm:aU H (upd H h'.objs.size (.frz (kla_obj "<lambda>" (pA x) params body scope cl ((X.mg "__name__").getD .none) c' C0) (.own h'.objs.size))):=λb u q=>by rw[aH (aV q hn)];exact q
  refine k _ _ _ (I.laid (t':=tk) (λb u q=>vZ _ (hk b u q)) hsz (show ce X.prog X.w _ _ _ (.frz _ (.own h'.objs.size))from ⟨vY _ rfl,_,vY _ rfl⟩)) sm ?_;exact⟨_,c',C0,_,oc,u,ws,t,aE,sm _ _ hH,hd,hv⟩
 |none=>
  refine kla_makeFunction (mg:=X.mg) zx I.ok.glob hg Lv C e tr hf Yf hb λc' C0 h' tk hx' hge fG hrec Uf=>?_;obtain⟨c2,oc,ws,t,e2,JH,hd,hv⟩:=hrec;cases e2
  have QX:H c'=none:=I.hok.fresh hge;have hsz:s.heap.objs.size<=h'.objs.size:=vR hge (Nat.le_of_lt fG);have Yg:H h'.objs.size=none:=I.hok.fresh hsz;have Yh:c'≠h'.objs.size:=vS fG;let fo:Obj:=kla_obj "<lambda>" (pA x) params body scope cl ((X.mg "__name__").getD .none) c' C0;let H1:Hp:=upd (upd H c' (.frz oc (.own c'))) h'.objs.size (.frz fo (.own h'.objs.size));have sm:aU H H1:=λb u q=>by
   show upd _ _ _ b=_;rw[aH (aV q Yg),aH (aV q QX)];exact q
  have Ug:H1 c'=some (.frz oc (.own c')):=by show upd _ _ _ c'=_;rw[aH Yh,aE]
  have keep:∀b u,b≠P->s.heap.get? b=some u->(h'.push fo).get? b=some u:=λb u n q=>vZ _ (hx' b u n q);have lt:∀b u,s.heap.get? b=some u->b≠c'/\b≠h'.objs.size:=λb u q=>⟨vS (vQ (vX q) hge),vS (vQ (vX q) hsz)⟩;have QY:(h'.push fo).get? P=some (tabObj (ps++#[rawInt pos.line,rawInt pos.col,.ref c'])):=vZ _ Uf;refine k _ H1 _ (I.un (t':=tk) (h':=h'.push fo) ⟨λb u q n _ _=>keep b u (nP b n) q,λb u q n _ _=>⟨u.slots,keep b u (nP b n) q⟩,λb u q n _=>?_,λb u q _=>?_,λb xs q=>sm _ _ q,λb ob u q=>sm _ _ q,λb u q=>sm _ _ q⟩ λb u q=>?_) sm ⟨_,c',C0,_,oc,_,ws,t,aE,Ug,hd,hv⟩
  ·show upd _ _ _ b=_;rw[aH (lt b u q).2,aH (lt b u q).1];exact n
  ·by_cases z:b=P
   ·subst z;exact⟨_,QY⟩
   ·exact⟨u,keep b u z q⟩
  ·by_cases z1:b=h'.objs.size
   ·subst z1;have q':some (HO.frz fo (.own h'.objs.size))=some u:=by rw[←q];exact aE.symm
    cases q'
    exact⟨vY _ rfl,_,vY _ rfl⟩
   ·by_cases z2:b=c'
    ·subst z2;rw[Ug]at q;cases q;exact⟨vZ _ JH,_,vZ _ JH⟩
    ·have q':H b=some u:=by
      have:H1 b=H b:=by show upd _ _ _ b=_;rw[aH z1,aH z2]
      rw[←this];exact q
     by_cases z3:b=P
     ·subst z3;rw[hP]at q';cases q';refine⟨_,QY,?_,λzp cv' ea=>?_⟩
      ·rw[Array.toList_append];exact TriplesOk_snoc _ _ _ _ tr
      ·rw[Array.toList_append]at ea;rcases Ay _ tr ea with ea|rfl
       ·obtain⟨c3,Yi,u3,Yj,t3,y1,y2,y3⟩:=co zp cv' ea;exact⟨c3,Yi,u3,Yj,t3,y1,sm _ _ y2,y3⟩
       ·exact⟨c',oc,_,ws,t,rfl,Ug,hd,hv⟩
     ·refine(I.hok b u q').stay (λd v AN r=>keep d v ?_ r) (λd r=>sm _ _ r) (λd xs r=>sm _ _ r) λd ob v r=>sm _ _ r;rcases AN with rfl|r
      ·exact z3
      ·intro z;rw[z,hP]at r;cases r
end
section
variable {P:Program}{w:World}{K:Frag}{mg:Str->Option Value}{base:Heap}
theorem eA.fnL {x:Str}{st:Stmt}{N ps:List Str}{k:Nat}{g:FS}{h:Heap}(F:eA K x st)(X:K.In h)(G:h.Ns mainGlobals mg)(S:FnScope N ps (aP st))
  (JY:∀(kV doc pm:Value)(an:Option Addr)(eI ct:Value)(us:List Value),us.length=ps.length->bindArgs (fnOf x x (fY st) (cG st) (aP st) .none kV doc pm an eI ct) ⟨us,[]⟩=pure (ps.zip us))
  (hb:∀(f:Addr)(eI:Value)(A:Around)(outer:List PySem.Env)(s:Shared)(H:Hp)(E:XK),(∀c P,tabIn K x=some (c,P)->eI=.ref c)->eN k (A.deeper (envOfC x (aP st) s.heap.objs.size f eI))->wO (oF z7 P w K mg base N x (aP st) f eI A outer s H E).nox (cG st) g):
  Fn P w K mg base (k+1) x (aN g ps.length (N.length - ps.length)):=by
 obtain⟨f,fd,F1,a⟩:=F;have F2:=F1;obtain⟨oc,od,kV,doc,pm,an,eI,ct,oC,rfl,lk,jv⟩:=F2.ex;have hc:∀c P,tabIn K x=some (c,P)->eI=.ref c:=λc P e=>by
  unfold tabIn at e;simp only[a,lk]at e;split at e
  ·rename_i c' _;split at e
   ·split at e
    ·cases e;rfl
    ·cases e
   ·cases e
  ·cases e
 have len:∀vs H Q E,Ik K (aN g ps.length (N.length - ps.length)) vs H Q E->vs.length=ps.length:=λvs H Q E h=>by
  obtain⟨B,ds,d,b,sB,i,e,q⟩:=h;unfold aN at e;split at e
  ·rename_i hl;rw[i.length];exact hl
  ·cases e
 refine⟨f,_,ps,Kn lk jv S len λA outer s H vs Q E hr h=>⟨_,uy.nox (hb f eI A outer s H E hc hr),?_⟩,mg_of X G a,F1.kp,F1.binds JY⟩;have bF:=len vs H Q E h;obtain⟨B,ds,d,b,sB,i,e,q⟩:=h;unfold aN at e;rw[if_pos (by rw[←i.length];exact bF)]at e;have s0:=xr (N:=N) sB.1 sB.2 i;rw[bF]at s0;split at e
 ·rename_i d' b' eg;cases e
  exact⟨B,H,_,_,⟨B,s0⟩,eg,λv H' N' x' i' f'=>q v H' N' x' i' f'⟩
 ·rename_i ρ' eg;cases e
  exact⟨B,H,_,_,⟨B,s0⟩,eg,λσ' H' ⟨N',s'⟩=>q .non H' N' s'.ext .non (by simp)⟩
 ·cases e
end
inductive lu (X:Cx)(N':List Str)(scope:Scope)(cl:List (Str×Addr)):Nat->List Nat->Prop where
 |nil {j:Nat}(h:N'.length=j):lu X N' scope cl j []
 |cons {j i:Nat}{r:List Nat}{x:Str}(h1:N'[j]? = some x) (h2:X.N[i]? = some x) (h3:X.env.kindOf x=some .cell∨X.env.kindOf x=some .free)
   (h4:scope.names.lookup x=some .free) (h5:cl.lookup x=X.env.cells.lookup x) (t:lu X N' scope cl (j+1) r):lu X N' scope cl j (i::r)
theorem lu.len:∀ {j:Nat}{cap:List Nat},lu X N' scope cl j cap->N'.length=j+cap.length
 |_,_,.nil h=>by rw[h];rfl
 |j,i::r,.cons _ _ _ _ _ t=>by rw[t.len,vE];omega
theorem lu.get:∀ {j:Nat}{cap:List Nat}{k i:Nat},lu X N' scope cl j cap->cap[k]? = some i->∃x,N'[j+k]? = some x/\X.N[i]? = some x/\(X.env.kindOf x=some .cell∨X.env.kindOf x=some .free) /\
  scope.names.lookup x=some .free/\cl.lookup x=X.env.cells.lookup x
 |_,_,_,_,.nil _,e=>by simp at e
 |j,_,0,_,.cons h1 h2 h3 h4 h5 _,e=>by simp at e;subst e;exact⟨_,h1,h2,h3,h4,h5⟩
 |j,_,k+1,i,.cons _ _ _ _ _ t,e=>by
  obtain⟨x,q,r⟩:=t.get (k:=k) (i:=i) (by simpa using e);exact⟨x,by rw[show j+(k+1)=j+1+k by omega];exact q,r⟩
noncomputable abbrev yr (X:Cx)(N':List Str)(scope:Scope)(cl:List (Str×Addr))(q:Str)(A:Around)(f c:Addr)(s:Shared)(H:Hp):Cx :=
 { X with A:=A.deeper (envX q scope s.heap.objs.size f (.ref c) cl),N:=N',s₀:=s,H₀:=H,env:=envX q scope s.heap.objs.size f (.ref c) cl,outer:=X.stack,stack:=envX q scope s.heap.objs.size f (.ref c) cl::X.stack,ex:=[],fn:=λ_=>false,calm:=true,pn:=[],xe:=λ_ _=>False }
structure LamSc (X:Cx)(scope:Scope)(cl:List (Str×Addr))(y:Str):Prop where
 clos:closureFor scope X.env=pure cl
 nocell:∀z∈scope.names,z.2≠.cell
 kind:scope.kind=.function
 co:scope.isCoroutine=false
 gen:scope.isGenerator=false
 par:scope.names.lookup y=some .local
 sub:∀x c,cl.lookup x=some c->X.env.cells.lookup x=some c
 has:∀x,scope.names.lookup x=some .free->∃c,cl.lookup x=some c
theorem B3 (h1:∀z∈scope.names,z.2≠.cell)(h2:scope.kind=.function)(h3:scope.isCoroutine=false)(Sc:scope.isGenerator=false)(hp:scope.names.lookup y=some .local)
  (OA:(scope.names.all λz=>!(z.2 == NameKind.free) || (X.env.cells.lookup z.1).isSome)=true):LamSc X scope (dF scope.names X.env.cells []) y:=by
 have h4:∀z∈scope.names,z.2=.free->(X.env.cells.lookup z.1).isSome=true:=λz hz e=>by
  have:=uR OA z hz;rw[e]at this;simpa using this
 exact⟨sS scope.names [] h4,h1,h2,h3,Sc,hp,λx c e=>lY scope.names [] (λy d q=>by cases q) e,λx h=>by
  have:=lZ (x:=x) scope.names [] (fL h) (h4 _ (fL h) rfl);exact uU this⟩
section
variable {X:Cx}{ae:List (Addr×Obj)}{σ:St}{H:Hp}{s:Shared}{A:Around}{N':List Str}{scope:Scope}{cl:List (Str×Addr)}{q y:Str}{cap:List Nat}
theorem II (S:LamSc X scope cl y)(N0:N'[0]? = some y)(cp:lu X N' scope cl 1 cap)(I:Inv X ae σ H s)(hA:A.frames=some X.stack)(hh:A.handled=none)(r:aX v u)
  (OC:h₁.Ns s.heap.objs.size (λx=>[(y,u)].reverse.lookup x)) (hk:∀b o,s.heap.get? b=some o->h₁.get? b=some o):
  Inv (yr X N' scope cl q A f c s H) [] (some v::sd 0 cap σ) H { s with heap:=h₁,toks:=tk }:=by
 have JM:∀b:Addr,b∉(yr X N' scope cl q A f c s H).ex:=λb z=>absurd (show b∈([]:List Addr)from z) (by simp);refine⟨⟨I.ok.mod,S.kind,rfl,rfl,vT _,λx z d e1 e2=>I.ok.inj x z d (S.sub _ _ e1) (S.sub _ _ e2),λx hx=>?_,(λx d e=>by cases e),λ_=>hh,Around.frames_deeper hA,.inr ⟨rfl,rfl⟩,λb z=>absurd z (JM b),I.bs,vR I.ok.bsz I.sz,λb _ _=>JM b,λb z=>absurd z (JM b),I.stack,I.stkFree⟩,
  rfl,I.bare,Un.kept hk,⟨_,OC,λi x v' e1 e2 e3=>?_⟩,λx d e=>?_,I.hok.fresh (vT _),λx d e=>I.freeC x d (S.sub _ _ e),λp hp=>absurd (show p∈([]:List (Addr×Obj))from hp) (by simp),I.hok.kept hk,?_⟩
 ·have hx':scope.names.lookup x=some .cell∨scope.names.lookup x=some .free:=hx;rcases hx' with hx'|hx'
  ·exact absurd rfl (S.nocell _ (fL hx'))
  ·exact S.has x hx'
 ·cases i with
  |zero=>
   have Lq:N'[0]? = some x:=e1;rw[N0]at Lq;cases Lq;have Uh:some v=some v':=by simpa using e2
   cases Uh
   exact⟨u,r,.inl ⟨S.par,by simp⟩⟩
  |succ k=>
   have Uh:(sd 0 cap σ)[k]? = some (some v'):=by simpa using e2
   obtain⟨k',i',fJ,g1,g2⟩:=vc Uh;have:k=k':=by omega
   subst this;obtain⟨x',n1,n2,n3,n4,n5⟩:=cp.get g1;have:x'=x:=by
    have Lq:N'[k+1]? = some x:=e1;rw[show 1+k=k+1 by omega]at n1;rw[n1]at Lq;exact vK Lq
   subst this;have Yk:σ[i']? = some (some v'):=by
    cases z:σ[i']? with
    |none=>rw[z]at g2;cases g2
    |some w=>rw[z]at g2;cases w with
     |none=>cases g2
     |some w=>cases g2;rfl
   obtain⟨m,_,hl⟩:=I.loc;obtain⟨u',ru,lk⟩:=hl i' x' v' n2 Yk (by
    rcases n3 with n3|n3
    ·exact .inr (.inl n3)
    ·exact .inr (.inr n3))
   refine⟨u',ru,.inr ⟨.inr n4,?_⟩⟩;rcases lk with⟨l1,_⟩|⟨_,d,l2,l3⟩
   ·rcases n3 with n3|n3<;>(rw[l1]at n3;cases n3)
   ·obtain⟨ob,ho,hd⟩:=l3;exact⟨d,by show cl.lookup x'=_;rw[n5];exact l2,ob,hk _ _ ho,hd⟩
 ·obtain⟨w,ob,ho,hd⟩:=I.cell x d (S.sub _ _ e);exact⟨w,ob,hk _ _ ho,hd⟩
 ·have:=cp.len;show(some v::sd 0 cap σ).length=N'.length;unfold sd;rw[this];simp;omega
theorem IJ (S:LamSc X scope cl y)(N0:N'[0]? = some y)(cp:lu X N' scope cl 1 cap)(I:Inv X ae σ H s)
  (hA:A.frames=some X.stack) (hh:A.handled=none) (GU:A.depth<recursionLimit) (lv:Fv H f q params body scope cl)
  (zq:∀pm c C0 u,bindArgs (kla_fn "<lambda>" q params body scope cl pm (.ref c) C0) ⟨[u],[]⟩=pure [(y,u)])
  (hb:∀(f c:Addr)(s:Shared)(H:Hp),JE (yr X N' scope cl q A f c s H) body fb)
  (rep:fE X.K B σ ρ) (sB:aU B H) (r:aX v u) (i:Is X.K B v d) (e:fb (some (d,false)::dG 0 cap ρ)=some (d',b')) (qf:Fin X.K B H d' b' Q):
  wpAny (model X.prog X.w) A (call (.ref f) [u]) (EP X ae σ Q) (λ_ _=>False) s:=by
 obtain⟨pm,c,C0,uf,oc,u',ws,t,hf,hc,hd,hv⟩:=lv;have ho:=(I.hok f _ hf).1;have JH:=(I.hok c _ hc).1;refine wpAny_call (codeAny_mono (R:=λr s'=>CR z7 X.stack X.prog X.w H s Q (λ_ _ _=>False) r s') ?_ λr s' hq=>?_)
 ·refine kla_callFunE GU ho rfl S.co S.gen rfl ⟨c,oc,ws,t,rfl,JH,hd,hv⟩ ?_;rw[zq];refine wY (wpAny_newFunctionEnv S.nocell (λz hz=>by rw[uT hz];exact S.par) (λh₁ OC hsb=>⟨I.nolimit.fresh _ hsb,?_⟩) S.kind);have QZ:∀b o,s.heap.get? b=some o->h₁.get? b=some o:=λb o e=>hsb.extBut b o (vS (vX e)) (vZ _ e);have J:=II (f:=f) (c:=c) (q:=q) (tk:=s.toks+1) S N0 cp I hA hh r OC QZ;refine kla_codeExpr (wpAny_mono (hb f c s H [] _ _ H Q J ⟨B,_,d',b',sB,⟨rep.tb,λj e0 b0 z=>?_⟩,e,qf⟩) (λw s' hw=>?_) λ_ _ z=>z.elim)
  ·cases j with
   |zero=>
    have z':some (d,false)=some (e0,b0):=by simpa using z
    cases z'
    exact⟨v,rfl,i⟩
   |succ j=>
    obtain⟨w,h1,h2⟩:=(rep.caps (nT:=0) (cap:=cap)).at' j e0 b0 (by simpa using z);exact⟨w,by simpa using h1,h2⟩
  ·obtain⟨v',H',J',rv,qv⟩:=hw;exact⟨v',H',J'.os,J'.bare,J'.base,J'.hok,rv,qv⟩
 ·cases r with
  |error e=>exact False.elim hq
  |ok fl=>
   cases fl with
   |ret w=>exact I.after hq
   |next=>exact False.elim hq
   |brk=>exact False.elim hq
   |cont=>exact False.elim hq
end
end DL
namespace DL
open PySem PySem.Spec PySem.W PyProof.Rows L2
section
variable {X:Cx}{ae:List (Addr×Obj)}{σ:St}{H:Hp}{s:Shared}{h':Heap}{t':Nat}
theorem nq (I:Inv X ((p,o)::ae) σ H s):∀x c,X.env.cells.lookup x=some c->c≠p:=λx c e z=>by
 have pf:=I.pin (p,o) (mY _ mX);obtain⟨v,ob,ho,hd⟩:=I.cell x c e;rw[z,pf.1]at ho;cases ho;exact pf.2.2.2.2 v hd
theorem kg (I:Inv X (p::ae) σ H s):Inv X ae σ H s:=I.pins_of λq hq=>I.pin q (mY _ (mZ _ hq))
theorem hU (I:Inv X ((p,o)::ae) σ H s)(h0:X.s₀.heap.objs.size<=p)(hp:∀q∈X.pn++ae,q.1≠p)(k:∀b u,b≠p->s.heap.get? b=some u->h'.get? b=some u)(e':h'.get? p=some o')(nc:∀v,o'.data≠.cell v):
  Inv X ((p,o')::ae) σ H { s with heap:=h',toks:=t' }:=by
 have pf:=I.pin (p,o) (mY _ mX);have J:=(kg I).turned (t':=t') k pf.2.1 pf.2.2.1 (.inr h0) (nq I) hp;refine J.pins_of λq hq=>?_;rcases vP hq with rfl|hq
 ·exact⟨e',pf.2.1,pf.2.2.1,pf.2.2.2.1,nc⟩
 ·exact J.pin q (mY _ hq)
theorem pi (I:Inv X ae σ H s)(k:∀b u,s.heap.get? b=some u->h'.get? b=some u)(hs:s.heap.objs.size<=p)(e':h'.get? p=some o)(nc:∀v,o.data≠.cell v):Inv X ((p,o)::ae) σ H { s with heap:=h',toks:=t' }:=by
 have J:=I.kept (t':=t') k;refine J.pins_of λq hq=>?_;rcases vP hq with rfl|hq
 ·exact⟨e',I.hok.fresh hs,Nat.ne_of_gt (vQ I.lt hs),I.nofs hs,nc⟩
 ·exact J.pin q (mY _ hq)
theorem IK (I:Inv X ((p,o)::ae) σ H s)(h0:X.s₀.heap.objs.size<=p)(hp:∀q∈X.pn++ae,q.1≠p)(k:∀b u,b≠p->s.heap.get? b=some u->h'.get? b=some u)(eo:∃u,h'.get? p=some u)
  (new:ce X.prog X.w (upd H p ob) h' p ob):Inv X ae σ (upd H p ob) { s with heap:=h',toks:=t' }:=by
 have pf:=I.pin (p,o) (mY _ mX);have hn:=pf.2.1;have hn:H p=none:=hn;have cs:=nq I;refine(kg I).step (g':=s.gens) (d':=s.drawn) (ch:=[p]) (λb hb=>?_) (λb u _ _ hc e _=>k b u (λz=>hc (by simp[z])) e) (λb u _ _ hc e _=>⟨u.slots,k b u (λz=>hc (by simp[z])) e⟩) (λb u hc _ n=>by rw[aH (λz=>hc (by simp[z]))];exact n)
  (λb u hc e=>⟨u,k b u (λz=>hc (by simp[z])) e⟩) (λb xs e=>by rw[aH (aV e hn)];exact e) (λb u w e=>by rw[aH (aV e hn)];exact e) (λb q e=>by rw[aH (aV e hn)];exact e) (λm hm=>?_) (λb u e=>?_) I.bare
 ·have z:b=p:=by simpa using hb
  subst z;exact⟨.inr h0,pf.2.2.1,cs,hp⟩
 ·obtain⟨ol,es,ep,ho,r⟩:=hm;exact⟨ol,es,ep,k _ ol (λz=>pf.2.2.1 z.symm) ho,r⟩
 ·by_cases z:b=p
  ·subst z;rw[aE]at e;cases e;exact new
  ·rw[aH z]at e;refine(I.hok b u e).stay (λc v hc q=>k c v ?_ q) (λc q=>?_) (λc xs q=>?_) λc w xs q=>?_
   ·rcases hc with rfl|hc
    ·exact z
    ·exact aV hc hn
   ·rw[aH (aV q hn)];exact q
   ·rw[aH (aV q hn)];exact q
   ·rw[aH (aV q hn)];exact q
end
def B4 (X:Cx)(A:Around)(σ:St)(qv:Value)(B H1:Hp)(kf:D->Option D):Prop :=
 ∀(ae:List (Addr×Obj))(s:Shared)(H N:Hp)(v:V)(u:Value)(d d':D),Inv X ae σ H s->aU H1 H->aU B N->aU N H->Is X.K N v d->aX v u->kf d=some d' ->
  wpAny (model X.prog X.w) A (call qv [u]) (EP X ae σ λv' H'=>∃N',Ext N N' H H'/\Is X.K N' v' d') (λ_ _=>False) s
def JK (X:Cx)(A:Around)(e:Expr)(kf:Env->D->Option D):Prop:=∀(ae:List (Addr×Obj))(s:Shared)(σ:St)(H B:Hp)(ρ:Env)(Q:Value->Shared->Prop)(E:Value->Shared->Prop),Inv X ae σ H s->aU B H->fE X.K B σ ρ ->
 (∀qa H1 s1,Inv X ae σ H1 s1->aU H H1->B4 X A σ (.ref qa) B H1 (kf ρ)->Q (.ref qa) s1)->wq X (eval e X.env) Q E s
section
variable {X:Cx}{A:Around}
@[simp] def pX (cap:List Nat)(fb:FE):Env->D->Option D:=λρ d=>(fb (some (d,false)::dG 0 cap ρ)).map (·.1)
theorem we (hx:x∈lV)(L:Ax X.K x)(hc:∀c P,tabIn X.K x=some (c,P)->X.env.code=.ref c)(hq:X.env.qual ++ "<lambda>" = pA x)
  (NW:defaultsOf params X.env=([],[])) (S:LamSc X scope (dF scope.names X.env.cells []) y) (N0:N'[0]? = some y) (cp:lu X N' scope (dF scope.names X.env.cells []) 1 cap) (hA:A.frames=X.A.frames) (hr:eN (k+1) A)
  (zq:∀pm c C0 u,bindArgs (kla_fn "<lambda>" (pA x) params body scope (dF scope.names X.env.cells []) pm (.ref c) C0) ⟨[u],[]⟩=pure [(y,u)])
  (hb:∀(f c:Addr)(s:Shared)(H:Hp),eN k (yr X N' scope (dF scope.names X.env.cells []) (pA x) A f c s H).A->JE (yr X N' scope (dF scope.names X.env.cells []) (pA x) A f c s H) body fb):JK X A (.Lambda params body scope pos) (pX cap fb):=by
 intro ae s σ H B ρ Q E I sB rep kk;refine Fw hx L hc hq NW S.clos I (rep.tb.mono sB) λf H1 s1 I1 sm lv=>kk f H1 s1 I1 sm ?_;intro GI s' H' N v u d d' I' m1 m2 m3 iv r e;simp only[pX]at e;obtain⟨⟨d2,b2⟩,e1,e2⟩:=oY e;cases e2
 exact IJ S N0 cp I' (hA.trans I'.ok.frames) hr.hd hr.depth (lv.mono m1) zq (λf c s H=>hb f c s H (hr.deeper _)) (rep.mono m2) m3 r iv e1 λv' H2 N2 x2 i2 _=>⟨N2,x2,i2⟩
@[simp] noncomputable def sq (g:List D->OB):Env->D->Option D:=λ_ d=>(g [d]).map (·.1)
theorem B5 (F:Fn X.prog X.w X.K X.mg X.base k x g)(hr:eN k A)(hA:A.frames=X.A.frames)(hg:Gl X x:=by rfl)(sx:(x == ("__debug__" : Str))=false:=by decide):JK X A (.Name x p) (sq g):=by
 intro ae s σ H B ρ Q E I sB rep kk;obtain⟨ad,fd,ps,F1,hm,hk,hb⟩:=F.ex;refine uz I hg hm ?_ sx;refine kk ad H s I (.refl H) ?_;intro GI s' H' N v u d d' I' m1 m2 m3 iv r e;simp only[sq]at e;obtain⟨⟨d2,b2⟩,e1,e2⟩:=oY e;cases e2
 have sp:Ik X.K g [v] H' (λv' H2=>∃N',Ext N N' H' H2/\Is X.K N' v' d2) (λ_ _ _=>False):=⟨N,[d],d2,b2,⟨m3,rep.tb.mono m2⟩,.cons iv .nil,e1,λv' H2 N2 x2 i2 _=>⟨N2,x2,i2⟩⟩;have hl:[u].length=ps.length:=by have:=F1.len _ _ _ _ sp;simpa using this
 have e0:=I'.env0;have bb:=hb s' [u] I'.kIn (by simpa using hl);rw[uQ]at bb;refine wpAny_call (codeAny_mono (F1.run A X.stack s' H' ⟨[u],[]⟩ [u] [v] _ (λ_ _ _=>False) hr ⟨hA.trans e0.frames,e0.mod,e0.bs,e0.bsz,e0.funs,e0.frf,e0.hok,e0.bare⟩ bb (.cons r .nil) sp) λr s' hq=>?_);cases r with
 |error e=>exact False.elim hq
 |ok fl=>
  cases fl with
  |ret w=>exact I'.after hq
  |next=>exact False.elim hq
  |brk=>exact False.elim hq
  |cont=>exact False.elim hq
end
noncomputable def jf (f:D->Option D):List D->Option (List D)
 |[]=>some []
 |d::ds=>(f d).bind λx=>(jf f ds).map (x :: ·)
theorem kh:∀ {ds ks:List D},jf f ds=some ks->ks.length=ds.length
 |[],_,h=>by simp only[jf]at h;cases h;rfl
 |d::ds,_,h=>by
  simp only[jf]at h;obtain⟨a,h1,h⟩:=oX h;obtain⟨r,h2,h⟩:=oY h;subst h;simp[kh h2]
theorem pY:∀ {ds ks:List D},jf f ds=some ks->∀ {i:Nat}{d:D},ds[i]? = some d->∃k,ks[i]? = some k/\f d=some k
 |[],_,h,i,d,e=>by simp at e
 |d::ds,_,h,0,e,q=>by
  simp only[jf]at h;obtain⟨a,h1,h⟩:=oX h;obtain⟨r,h2,h⟩:=oY h;subst h;simp at q;subst q;exact⟨a,by simp,h1⟩
 |d::ds,_,h,i+1,e,q=>by
  simp only[jf]at h;obtain⟨a,h1,h⟩:=oX h;obtain⟨r,h2,h⟩:=oY h;subst h;obtain⟨k,z1,z2⟩:=pY h2 (i:=i) (d:=e) (by simpa using q);exact⟨k,by simpa using z1,z2⟩
structure KK (X:Cx)(A:Around)(kd:List D->Option (List (List At)))(ok:List (List At)->Bool):Prop where
 len:∀ {ds:List D}{ks:List (List At)},kd ds=some ks->ks.length=ds.length
 ask:∀ {ae:List (Addr×Obj)}{σ:St}{H:Hp}{s:Shared}(_:Inv X ae σ H s) {ys:List V}{ds:List D}{ks:List (List At)}{its:List Value},aT ys its->IsL X.K H ys ds->kd ds=some ks->ok ks=true->eD ks=true ->
  (0<ks.length->∀ {E:Value->Shared->Prop}{Q:SortKind->Shared->Prop},Q (tuples' true) s->wpAny (model X.prog X.w) A (keyKind' its.toArray) Q E s) /\
  ∀(i j:Nat)(C:Bool->Shared->Prop)(s1:Shared),i<ks.length->j<ks.length->s1=s->(∀s',s'=s->C (pU (Hi ks) i j) s')->kas_ask X.prog X.w A (tuples' true) its i j C s1
theorem Fx:KK X A dz fu:=⟨kG,λI _ _ _ _ r i e hf hc=>have hp:=ph I r i e;⟨λhn _ _ q=>Ft hp hf hn q,IG hc hp⟩⟩
section
variable {X:Cx}{ae:List (Addr×Obj)}{σ:St}{s:Shared}
theorem tH (r:aX x u):∀ {vs:List V}{us:List Value},aT vs us->aT (vs++[x]) (us++[u])
 |_,_,.nil=>.cons r .nil
 |_,_,.cons h t=>.cons h (tH r t)
theorem dc:∀v,(Obj.mk c od (.seq its n) sl).data≠.cell v:=λv z=>by cases z
theorem Az 
  (I:Inv X ((a,seqObj "list" its.toArray n)::ae) σ H s) (h0:X.s₀.heap.objs.size<=a) (hp:∀q∈X.pn++ae,q.1≠a) (Hn:B4 X A σ qv B H kf) (rv:aT vs its) (iv:IsL X.K B vs ds) (sB:aU B H)
  (M:KK X A kd ok) (em:jf kf ds=some gG) (ek:kd gG=some ks) (hc:eD ks=true) (hf:ok ks=true) (DY:its.length<64)
  (h:∀(p:Array Nat)(s':Shared)(H' N:Hp),oV its.length p->Up (Hi ks) p its.length->Inv X ae σ (upd H' a (.lst (p.toList.map λi=>vs.getD i .non))) s'->Ext B N H H'->H' a=none->P (.done (.ret .none)) s'):
  wpAny (model X.prog X.w) A (ksk_tree a qv false) P E s:=by
 have pa:=I.pin (a,seqObj "list" its.toArray n) (mY _ mX)
 have Cy:vs.length=its.length:=rv.length
 have NR:ds.length=vs.length:=iv.length.symm
 have Yl:gG.length=ds.length:=kh em
 have VR:ks.length=gG.length:=M.len ek
 have hz:its.length<=sizeLine:=by rw[sizeLine_eq];omega
 have Zx:H a=none:=pa.2.1
 obtain⟨e1,OG⟩:∃e1,(s.heap.update a (Obj.mapSeq λ_=>(#[]:Array Value))).get? a=some (seqObj "list" #[] e1):=⟨_,get?_update_seq pa.1 λ_=>#[]⟩
 have u1:=vW s.heap a (Obj.mapSeq λ_=>(#[]:Array Value))
 have I1:Inv X ((a,seqObj "list" #[] e1)::ae) σ H { s with heap:=s.heap.update a (Obj.mapSeq λ_=>(#[]:Array Value)) }:=hU (t':=s.toks) I h0 hp (λb u n q=>(u1.2 b n).trans q) OG dc
 let h2:Heap:=(s.heap.update a (Obj.mapSeq λ_=>(#[]:Array Value))).push (seqObj "tuple" its.toArray 0)
 have I2:Inv X ((a,seqObj "list" #[] e1)::ae) σ H { s with heap:=h2 }:=I1.kept (t':=s.toks) λb u q=>vZ _ q
 let kS:Addr:=h2.objs.size
 have I3:Inv X ((kS,seqObj "list" #[] 0)::(a,seqObj "list" #[] e1)::ae) σ H { s with heap:=h2.push (seqObj "list" #[] 0) }:=pi (s:={ s with heap:=h2 }) (t':=s.toks) I2 (λb u q=>vZ _ q) (vT _) (vY _ rfl) dc
 have k0:X.s₀.heap.objs.size<=kS:=I2.sz
 have kp:∀q∈X.pn++((a,seqObj "list" #[] e1)::ae),q.1≠kS:=λq hq=>vS (vX (I2.pin q hq).1)
 have Zy:kS≠a:=λz=>kp (a,seqObj "list" #[] e1) (mY _ mX) z.symm
 unfold ksk_tree
 refine wX (listItems_at pa.1 rfl ?_)
 refine wX (listUpdate_at pa.1 rfl ?_ (by simpa using hz) (uN _))
 refine wX (seqEpoch_at OG rfl ?_)
 refine wX (wpAny_newTuple ?_ (by show its.length<=sizeLine;exact hz))
 refine wX (wpAny_newList ?_ (uN _))
 refine wpAny_holding ?_
 show wpAny (model X.prog X.w) A (ksk_rest a qv false its.toArray e1 (.ref kS)) P E { s with heap:=h2.push (seqObj "list" #[] 0) }
 unfold ksk_rest
 refine wX (wpAny_rule ?_)
 rw[List.forIn_toArray]
 refine wX (ksk_fold (λi s'=>∃(H' N:Hp)(kA:Array Value)(e:Nat)(aI:List V),Inv X ((kS,seqObj "list" kA e)::(a,seqObj "list" #[] e1)::ae) σ H' s'/\Ext B N H H'/\aT aI kA.toList/\IsL X.K N aI (gG.take i)) its 0 _
  ⟨H,B,#[],0,[],I3,.refl sB,.nil,by simpa using IsL.nil⟩ ?step ?done)
 case step=>
  rintro j u s' hu ⟨H',N,kA,e,aI,J,x1,rk,ik⟩
  simp only[Nat.zero_add]at ik ⊢
  have hj:j<its.length:=(vV hu).1
  obtain⟨d,hd⟩:∃d,ds[j]? = some d:=⟨_,vU (by omega)⟩
  obtain⟨v,hv,Lx⟩:=iv.get hd
  obtain⟨kd,Sd,Ui⟩:=pY em hd
  obtain⟨u',Kc,ru⟩:=rv.get hv
  rw[hu]at Kc;cases Kc
  have kl:kA.size=j:=by
   have z1:=rk.length
   have z2:=ik.length
   rw[List.length_take]at z2
   rw[vG]at z1
   exact z1.symm.trans (z2.trans (Nat.min_eq_left (by omega)))
  refine wX (wpAny_attempt (wpAny_mono (Hn _ s' H' N v u d kd J x1.hh x1.bn x1.nh (Lx.mono x1.bn) ru Ui) (λw Ek hw=>?_) λ_ _ hF=>hF.elim))
  obtain⟨v',Ym,J',Yn,N',x2,i2⟩:=hw
  have pk:=J'.pin (kS,seqObj "list" kA e) (mY _ mX)
  obtain⟨c2,Cu⟩:∃c2,(Ek.heap.update kS (Obj.mapSeq (·.push w))).get? kS=some (seqObj "list" (kA.push w) c2):=⟨_,get?_update_seq pk.1 (·.push w)⟩
  have u2:=vW Ek.heap kS (Obj.mapSeq (·.push w))
  refine wX (listUpdate_at pk.1 rfl ?_ (by rw[sizeLine_eq];omega) (vR (Nat.le_of_eq (Array.size_push ..)) (by rw[sizeLine_eq];omega)))
  refine wY ⟨rfl,Ym,N',kA.push w,c2,aI++[v'],hU (t':=Ek.toks) J' k0 kp (λb q n z=>(u2.2 b n).trans z) Cu dc,x1.trans x2,?_,?_⟩
  ·rw[Array.toList_push];exact tH Yn rk
  ·rw[List.take_add_one,Sd];exact(ik.mono x2.bn).append (.cons i2 .nil)
 case done=>
  rintro s' ⟨H',N,kA,e,aI,J,x1,rk,ik⟩
  have VS:IsL X.K N aI gG:=by
   have z:gG.take (0+its.length)=gG:=List.take_of_length_le (by omega)
   rw[z]at ik;exact ik
  have pk:=J.pin (kS,seqObj "list" kA e) (mY _ mX)
  have Yo:=J.pin (a,seqObj "list" #[] e1) (mY _ (mZ _ mX))
  have Tw:H' a=none:=Yo.2.1
  have kz:kA.toList.length=its.length:=by rw[←rk.length,VS.length];omega
  have VT:kA.size=its.length:=by rw[←vG];exact kz
  refine wX (listItems_at pk.1 rfl ?_)
  have VU:=M.ask J rk (VS.mono x1.nh) ek hf hc
  -- the end of the sort,for a permutation p
  have Ra:∀(st:SortSt)(p:Array Nat),arrOf st=p.map (kas_item (kA.toList.toArray.zip its.toArray))->failedOf st=none->oV its.length p->Up (Hi ks) p its.length ->
    wpAny (model X.prog X.w) A (ksk_tail a false e1 (.ref kS) st) P E s':=λst p ea ef ap up=>by
   have eo:(arrOf st).map (·.2)=List.toArray (p.toList.map λi=>its.getD i Value.none):=kat_snds kz ea
   have Ka:∀i∈p.toList,i<vs.length:=λi hi=>by
    have:=List.mem_range.mp (ap.perm.mem_iff.mp hi)
    omega
   obtain⟨c3,Yp⟩:∃c3,(s'.heap.update kS (Obj.mapSeq λ_=>(#[]:Array Value))).get? kS=some (seqObj "list" #[] c3):=⟨_,get?_update_seq pk.1 λ_=>#[]⟩
   have u3:=vW s'.heap kS (Obj.mapSeq λ_=>(#[]:Array Value))
   have J3:=kg (hU (t':=s'.toks) J k0 kp (λb q n z=>(u3.2 b n).trans z) Yp dc)
   have Uj:=J3.pin (a,seqObj "list" #[] e1) (mY _ mX)
   obtain⟨c4,VV⟩:∃c4,((s'.heap.update kS (Obj.mapSeq λ_=>(#[]:Array Value))).update a (Obj.mapSeq λ_=>(arrOf st).map (·.2))).get? a=some (seqObj "list" ((arrOf st).map (·.2)) c4):=⟨_,get?_update_seq Uj.1 λ_=>(arrOf st).map (·.2)⟩
   have u4:=vW (s'.heap.update kS (Obj.mapSeq λ_=>(#[]:Array Value))) a (Obj.mapSeq λ_=>(arrOf st).map (·.2))
   have so:((arrOf st).map (·.2)).size=its.length:=by rw[eo];simp only[vH,vI,vG,ap.size]
   unfold ksk_tail
   try dsimp only
   refine wX (listUpdate_at pk.1 rfl ?_ (by rw[VT,sizeLine_eq];omega) (uN _))
   refine wX (wpAny_letGo ?_)
   refine wX (seqEpoch_at Uj.1 rfl ?_)
   refine wX (listUpdate_at Uj.1 rfl ?_ (uN _) (by simp only[uV,if_false];rw[so,sizeLine_eq];omega))
   rw[ef]
   simp only[bne_self_eq_false,uV,if_false]
   refine wY (h p _ H' N ap up (IK (s:={ s' with heap:=s'.heap.update kS (Obj.mapSeq λ_=>(#[]:Array Value)) }) (t':=s'.toks) J3 h0 hp (λb q n z=>(u4.2 b n).trans z) ⟨_,VV⟩ ?_) x1 Tw)
   refine⟨by rw[vI,vG,ap.size];exact hz,p.toList.map λi=>its.getD i Value.none,c4,tG rv p.toList Ka,?_⟩
   rw[←eo];exact VV
  unfold ksk_end
  try dsimp only
  simp only[uV,if_false]
  have Yq:kA=kA.toList.toArray:=by simp
  by_cases GO:its.toArray.size<2
  ·rw[if_pos GO,if_pos GO]
   refine wX (wY ?_)
   rw[StateT.run_pure]
   refine wX (wY ?_)
   have VW:its.length<2:=by simpa using GO
   refine Ra _ (List.toArray (List.range its.length)) ?_ rfl ⟨by simp,by simp⟩ ?_
   ·show kA.zip its.toArray=_
    have:=kas_range (kA.toList.toArray.zip its.toArray)
    rw[show(kA.toList.toArray.zip its.toArray).size=its.length by simp[VT]]at this
    rw[this]
   ·intro i j Cz hj
    have:i=j:=by omega
    subst this;exact Int.le_refl _
  ·rw[if_neg GO,if_neg GO]
   have Uk:2<=its.length:=by simp at GO;omega
   rw[Yq]
   refine wX (VU.1 (by omega) ?_)
   obtain⟨p,r1,r2,r3⟩:=Fp (n:=its.length) (rk:=Hi ks) (by omega)
   refine wX (wpAny_mono (kat_run (E:=E) (ks:=kA.toList) (vs:=its) (κ:=tuples' true) (s:=s') (Q:=λlO s2=>s2=s'/\arrOf lO=p.map (kas_item (kA.toList.toArray.zip its.toArray))/\failedOf lO=none)
    (G:=λp' s2=>p'=p/\s2=s') kz Uk DY (λp' lO s2 _ e2 e3 e4=>by
     obtain⟨rfl,rfl⟩:=e4
     exact⟨rfl,e2,e3⟩) (Run.wp (λs2=>s2=s') (λi j C s2 hi hj e hC=>VU.2 i j C s2 (by omega) (by omega) e hC) r1 rfl λs2 e=>⟨rfl,e⟩)) (λr s2 hr=>?_) λ_ _ z=>z)
   obtain⟨⟨⟩,lO⟩:=r
   obtain⟨rfl,e2,e3⟩:=hr
   exact Ra lO p e2 e3 r2 r3
end
theorem yt {α β:Type}{f:α->β}:∀ {l:List α},(l.map f).Nodup->l.Nodup
 |[],_=>List.nodup_nil
 |a::l,h=>by
  rw[uY,List.nodup_cons]at h;exact List.nodup_cons.mpr ⟨λz=>h.1 (uS ⟨a,z,rfl⟩),yt h.2⟩
def jg (ks:List (List At))(ds:List D):List D:=(eC (λp:List At×D=>cD p.1) (ks.zip ds)).map (·.2)
theorem Fy {α β:Type}(d:α)(e:β):∀ {l₁:List α}{l₂:List β},l₁.length=l₂.length->(List.range l₂.length).map (λi=>(l₁.getD i d,l₂.getD i e))=l₁.zip l₂:=λ{l₁ l₂} h=>by
 apply List.ext_getElem?;intro i;by_cases hi:i<l₂.length
 ·have Lr:i<l₁.length:=by omega
  have:=(List.getElem?_zip_eq_some (z:=(l₁[i],l₂[i]))).mpr ⟨vU Lr,vU hi⟩;rw[this];simp[hi,Lr]
 ·simp[hi,h]
theorem IL {α β:Type}{l₁:List α}{l₂:List β}(nd:l₁.Nodup){a:α}{b c:β}(h1:(a,b)∈l₁.zip l₂)(h2:(a,c)∈l₁.zip l₂):b=c:=by
 obtain⟨i,hi⟩:=List.mem_iff_getElem?.mp h1;obtain⟨j,hj⟩:=List.mem_iff_getElem?.mp h2;obtain⟨i1,i2⟩:=List.getElem?_zip_eq_some.mp hi;obtain⟨j1,j2⟩:=List.getElem?_zip_eq_some.mp hj;obtain⟨li,ei⟩:=vV i1;obtain⟨lj,ej⟩:=vV j1;have:i=j:=(List.getElem_inj nd).mp (ei.trans ej.symm);subst this;rw[i2]at j2;exact vK j2
theorem A0 {ds:List D}{ks:List (List At)}{p:Array Nat}(hl:ks.length=ds.length)(hc:eD ks=true)(nd:ks.Nodup)(ap:oV ds.length p)(up:Up (Hi ks) p ds.length):p.toList.map (λi=>ds.getD i .non)=jg ks ds:=by
 unfold jg;have e:p.toList.map (λi=>(ks.getD i [],ds.getD i .non))=eC (λp:List At×D=>cD p.1) (ks.zip ds):=by
  apply jd
  ·intro x hx y hy e;have mx:=(List.of_mem_zip hx).1;have my:=(List.of_mem_zip hy).1;have:=np hc mx my e;obtain⟨k1,d1⟩:=x;obtain⟨k2,d2⟩:=y;have z:k1=k2:=this;subst z;rw[IL nd hx hy]
  ·have:=ap.perm.map (λi=>(ks.getD i [],ds.getD i D.non));rw[Fy [] D.non hl]at this;exact this
  ·rw[List.pairwise_iff_getElem];intro i j hi hj Cz;have hsz:=ap.size;have Lr:i<p.size:=by simpa using hi
   have Yr:j<p.size:=by simpa using hj
   have:=up i j (Nat.le_of_lt Cz) (by omega);unfold cn Hi at this;have gi:p.getD i 0=p[i]:=by rw[Array.getD_eq_getD_getElem?,Array.getElem?_eq_getElem Lr];rfl
   have gj:p.getD j 0=p[j]:=by rw[Array.getD_eq_getD_getElem?,Array.getElem?_eq_getElem Yr];rfl
   have lj:=ap.lt (k:=j) (by omega);have mj:ks.getD (p.getD j 0) []∈ks:=by
    have h':p.getD j 0<ks.length:=by omega
    rw[vF,vU h'];exact List.getElem_mem h'
   have nl:¬cD (ks.getD (p.getD j 0) [])<cD (ks.getD (p.getD i 0) []):=λz=>by
    have:=Bv (cs:=ks.map cD) (uS ⟨_,mj,rfl⟩) z;omega
   simp only[List.getElem_map,Array.getElem_toList];unfold Fs;rw[←gi,←gj];exact nl
 rw[←e,uP];rfl
@[simp] def wg (kd:List D->Option (List (List At)))(ok:List (List At)->Bool)(f:FE)(kf:Env->D->Option D):FE:=λρ=>(f ρ).bind λx=>match x.1 with
 |.lst ds=>(jf (kf ρ) ds).bind λgG=>(kd gG).bind λks=>if ks.length<64/\eD ks=true/\ok ks=true/\(ks.map cD).Nodup then some (.lst (jg ks ds),true)else none
 |_=>none
@[simp] abbrev pZ:FE->(Env->D->Option D)->FE:=wg dz fu
section
variable {X:Cx}{e ke:Expr}{p pos kp:Pos}
theorem Fz {kd:List D->Option (List (List At))}{ok:List (List At)->Bool}(M:KK X X.A.in1.in1 kd ok){f:FE}{kf:Env->D->Option D}(hm:X.mg "sorted" = none)(he:JE X e f)(hk:JK X X.A.in1.in1 ke kf)(hg:Gl X "sorted":=by rfl)
  (Ul:starEach [e] X.env=[(false,eval e X.env)]:=by rfl) (Um:backTo pos (starEach [e] X.env)=(false,eval e X.env)::backTo pos (starEach [] X.env):=by rfl) (ls:(backTo pos (starEach [e] X.env)).any (·.1)=false:=by rfl)
  (mO:(backToKw pos (keywordEach [⟨some "key",ke,kp⟩] X.env)).all (·.1.isSome)=true:=by rfl) (Uo:(backToKw pos (keywordEach [⟨some "key",ke,kp⟩] X.env)).any (·.1.isNone)=false:=by rfl)
  (Uq:(backToKw pos (keywordEach [⟨some "key",ke,kp⟩] X.env)).filterMap (·.1)=[("key" : Str)]:=by rfl):
  JE X (.Call (.Name "sorted" p) [e] [⟨some "key",ke,kp⟩] pos) (wg kd ok f kf):=by
 intro ae s σ H Q I h;obtain⟨B,ρ,d,b,sB,rep,ee,q⟩:=h;obtain⟨⟨xd,xb⟩,ex,ee⟩:=oX ee;cases xd<;>try (cases ee;done)
 rename_i ds;obtain⟨gG,em,ee⟩:=oX ee;obtain⟨ks,ek,ee⟩:=oX ee;split at ee
 ·rename_i hh;obtain⟨DY,hc,hf,nd⟩:=hh;cases ee
  refine wpAny_Call_Name_kw (lx I hg hm (u:=.builtin "sorted") rfl ?_);refine callWith_kw (cx ((iF he jR Ul) pos ae s σ H (λvs H1=>∃v N,vs=[v]/\Ext B N H H1/\Is X.K N v (.lst ds)) I ⟨B,ρ,_,_,sB,rep,ex,λv H1 N x1 i1 _=>⟨v,N,rfl,x1,i1⟩⟩) λus s1 hA=>?_) Um ls mO Uo;obtain⟨Ys,H1,I1,r1,v,N,rfl,x1,i1⟩:=hA;obtain⟨u,rfl,ru⟩:=gP r1;refine kws_cons (hk ae s1 σ H1 N ρ _ _ I1 x1.nh (rep.mono x1.bn) λqa H2 s2 I2 m2 Hn=>kws_nil ?_);rw[Uq];show wpAny _ _ (call (.builtin "sorted") [u] [(("key" : Str),.ref qa)]) _ _ _;cases i1
  rename_i l vs hq il;cases ru
  have sN:aU N H2:=x1.nh.trans m2;obtain⟨its,rv,pl,hz⟩:=I2.list (sN.seq hq);have Cy:vs.length=its.length:=rv.length;have NR:ds.length=vs.length:=il.length.symm;have Yl:gG.length=ds.length:=kh em;have VR:ks.length=gG.length:=M.len ek;have Ur:its.length<64:=by omega
  refine call_function_entry_kw kind_sorted plain_sorted entry_sorted (ksk_s1 _ _) ?_;unfold Builtin.«sorted»;refine wX (m:=checkCount "sorted" 1 1 _) (wY (wX (collect_list pl.isList (wX (wpAny_newList ?_ (by rw[sizeLine_eq];omega))) (by rw[sizeLine_eq];omega))));let h1:Heap:=(s2.heap.push (seqObj "list" #[] 0)).update s2.heap.objs.size (Obj.mapSeq (· ++ its.toArray));have hsz:h1.objs.size=s2.heap.objs.size+1:=by show(Heap.update _ _ _).objs.size=_;rw[Heap.size_update,size_push']
  have Rb:∀b o,s2.heap.get? b=some o->h1.get? b=some o:=λb o q=>(Heap.get?_update_ne _ _ _ _ (vS (vX q))).trans (vZ _ q);have I3:Inv X ((h1.objs.size,seqObj "list" its.toArray 0)::ae) σ H2 { s2 with heap:=h1.push (seqObj "list" its.toArray 0) } :=
   pi (t':=s2.toks) I2 (λb u q=>vZ _ (Rb b u q)) (by rw[hsz];exact Nat.le_succ _) (vY _ rfl) dc
  have p3:=I3.pin (h1.objs.size,seqObj "list" its.toArray 0) (mY _ mX);show wpAny (model X.prog X.w) X.A.in1 (holding [.ref h1.objs.size] (call (.builtin "list.sort") [.ref h1.objs.size] [(("key" : Str),.ref qa)])>>=_) _ _ { s2 with heap:=h1.push (seqObj "list" its.toArray 0) };refine wX (wpAny_holding (wpAny_call_entry_kw slot_list_sort ⟨_,p3.1,rfl⟩ entry_list_sort ?_ (ksk_l1 _ _)));show wpAny (model X.prog X.w) X.A.in1.in1 (Builtin.«list.sort» ⟨[.ref h1.objs.size],[(Str.ofString "key",.ref qa)]⟩) _ _ _;rw[ksk_t1];refine Az I3 (vR I2.sz (by rw[hsz];exact Nat.le_succ _)) (λq hq=>by rw[hsz];exact vS (Nat.lt_succ_of_lt (vX (I2.pin q hq).1))) Hn rv il sN M em ek hc hf Ur λpm s' H' N' ap up J x3 hn=>⟨_,rfl,wY ⟨_,rfl,?_⟩⟩;have ls:its.length=ds.length:=by omega
  rw[ls]at ap up;have er:=A0 (by omega) hc (yt nd) ap up;have Ka:∀i∈pm.toList,i<ds.length:=λi hi=>List.mem_range.mp (ap.perm.mem_iff.mp hi);have ip:=yo (il.mono x3.bn) pm.toList Ka;rw[er]at ip;have x4:Ext B N' H H':=(x1.trans (.grow x1.nh m2)).trans x3;have hN:N' h1.objs.size=none:=x3.nh.free hn;have x5:=x4.trans (Ext.laid (o:=.lst (pm.toList.map λi=>vs.getD i .non)) x3.nh hn);exact⟨.ref h1.objs.size,_,J,rfl,q _ _ _ x5 (.lst (iA.of aE) (ip.mono (Ext.laid (o:=.lst (pm.toList.map λi=>vs.getD i .non)) x3.nh hn).bn)) λ_=>⟨_,_,_,rfl,rfl,x4.hh.free hn,aE,ip.mono (Ext.laid (o:=.lst (pm.toList.map λi=>vs.getD i .non)) x3.nh hn).bn⟩⟩
 ·cases ee
end
noncomputable def WL {f:String->CmpOp->Builtin}(_:f "__lt__" .Lt=Builtin.«tuple.__lt__»):=f
noncomputable def Vb:String->CmpOp->Builtin:=WL rfl
section
variable {prog:Program}{w:World}{A:Around}{E:Value->Shared->Prop}{s:Shared}{op:CmpOp}
theorem gZ.type (h:gZ s.heap xs v):s.TypeIs v "tuple":=by
 obtain⟨a,o,its,n,rfl,ho,hc,_⟩:=h;exact⟨o,ho,hc⟩
inductive GeW (prog:Program)(w:World)(A:Around)(s:Shared)(op:CmpOp)(kX r:Bool):List (Value×Value)->Prop
 |nil (h:kX=r):GeW prog w A s op kX r []
 |eq {u v:Value}{l:List (Value×Value)}(h:SeqAt.EqAt A s u v true) (t:GeW prog w A s op kX r l):GeW prog w A s op kX r ((u,v)::l)
 |ne {u v:Value}{l:List (Value×Value)}(h:SeqAt.EqAt A s u v false) (t:∀(Q E:Value->Shared->Prop),Q (.bool r) s->wpAny (model prog w) A (richCompare op u v) Q E s):GeW prog w A s op kX r ((u,v)::l)
theorem IM {nm:String}(Yt:s.TypeIs (.ref b) "tuple")(TD:s.heap.get? a=some oa)(Yu:oa.data=.seq its na)(Yv:s.heap.get? b=some ob)(sx:ob.data=.seq gu nb)
  (W:GeW prog w A s op kX r (its.toList.zip gu.toList)) (hz:Builtin.Tuple.tupleCompareSizes op its.size gu.size=.bool kX) (Rc:op=.Lt∨op=.Gt∨op=.GtE) (q:P (.done (.ret (.bool r))) s):wpAny (model prog w) A (Vb nm op ⟨[.ref a,.ref b],[]⟩) P E s:=by
 show wpAny _ _ (isInstance (.ref _) (.type "tuple")>>=_) _ _ s;refine wX (wpAny_isInstance Yt isSubtype_tuple_tuple ?_);simp only[Bool.not_true,uV,if_false];refine wX (wpAny_tupleItemsOf TD Yu ?_);refine wX (wpAny_tupleItemsOf Yv sx ?_);refine wX ?_;refine wpAny_forIn_list _ (λaC z s'=>z.1=none/\s'=s/\GeW prog w A s op kX r aC) _ ?_ ?_ _ _ ⟨rfl,rfl,W⟩
 ·rintro⟨u,v⟩ aC z s' ⟨hz,rfl,W⟩;cases W with
  |eq h t=>
   refine wX (h _ _ _ _ ?_);simp only[Bool.not_true,uV,if_false];exact wY ⟨rfl,rfl,t⟩
  |ne h t=>
   refine wX (h _ _ _ _ ?_);simp only[Bool.not_false,if_true];have t:=t (λv Ek=>v=.bool r/\Ek=s') E ⟨rfl,rfl⟩;rcases Rc with rfl|rfl|rfl<;>exact wX (wpAny_rule (wX (wpAny_mono t (λv Ek hv=>by obtain⟨rfl,rfl⟩:=hv;exact wX (wY (wY (wY q)))) λ_ _ z=>z)))
 ·rintro⟨z1,z2⟩ s' ⟨VX,rfl,W⟩;simp only at VX;subst VX;refine wY ?_;cases W with
  |nil h=>
   show P (.done (.ret (Builtin.Tuple.tupleCompareSizes op its.size gu.size))) s';rw[hz,h];exact q
structure CmR (prog:Program)(w:World)(A:Around)(s:Shared)(op:CmpOp)(R:List At->List At->Bool->Prop)(fl:Nat->Nat->Bool):Prop where
 ei:∀ {a xs ys r},R (.i a::xs) (.i a::ys) r->R xs ys r
 es:∀ {a xs ys r},R (.s a::xs) (.s a::ys) r->R xs ys r
 ni:∀ {a c xs ys r},a≠c->R (.i a::xs) (.i c::ys) r->∀t u (Q E:Value->Shared->Prop),Q (.bool r) s->wpAny (model prog w) A (richCompare op (.int a t) (.int c u)) Q E s
 ns:∀ {a c xs ys r},a≠c->R (.s a::xs) (.s c::ys) r->∀t u (Q E:Value->Shared->Prop),Q (.bool r) s->wpAny (model prog w) A (richCompare op (.str a t) (.str c u)) Q E s
 mx:∀ {a c xs ys r},¬R (.i a::xs) (.s c::ys) r/\¬R (.s c::xs) (.i a::ys) r
 en:∀ {xs r},(R [] xs r->fl 0 xs.length=r)/\(R xs [] r->fl xs.length 0=r)
 fs:∀ {m n},fl (m+1) (n+1)=fl m n
theorem qc (C:CmR prog w A s op R fl):∀(xs ys:List At)(its gu:List Value),Paired zB xs its->Paired zB ys gu->R xs ys r->GeW prog w A s op (fl xs.length ys.length) r (its.zip gu)
 |[],_,_,_,.nil,_,h=>.nil (C.en.1 h)
 |_::_,[],_,_,.cons _ _,.nil,h=>.nil (C.en.2 h)
 |.i _::_,.s _::_,_,_,_,_,h=>absurd h C.mx.1
 |.s _::_,.i _::_,_,_,_,_,h=>absurd h C.mx.2
 |.i a::xs,.i c::ys,_,_,.cons r1 GQ,.cons r2 r2',h=>by
  obtain⟨t,rfl⟩:=r1;obtain⟨u,rfl⟩:=r2;have he:=SeqAt.EqAt.int_int (A:=A) (s:=s) a t c u;rw[List.zip_cons_cons,vE,vE,C.fs];by_cases e:a=c
  ·subst e;rw[show(a == a)=true by simp]at he;exact .eq he (qc C xs ys _ _ GQ r2' (C.ei h))
  ·rw[show(a == c)=false by simp[e]]at he;exact .ne he (C.ni e h t u)
 |.s a::xs,.s c::ys,_,_,.cons r1 GQ,.cons r2 r2',h=>by
  obtain⟨t,rfl⟩:=r1;obtain⟨u,rfl⟩:=r2;have he:=SeqAt.EqAt.str_str (A:=A) (s:=s) a t c u;rw[List.zip_cons_cons,vE,vE,C.fs];by_cases e:a=c
  ·subst e;rw[show(a == a)=true by simp]at he;exact .eq he (qc C xs ys _ _ GQ r2' (C.es h))
  ·rw[show(a == c)=false by simp[e]]at he;exact .ne he (C.ns e h t u)
theorem Qg:CmR prog w A s .Lt (λxs ys r=>ba xs ys=some r) (λm n=>decide (m<n)) where
 ei h:=by rwa [ba,if_pos rfl]at h
 es h:=by rwa [ba,if_pos rfl]at h
 ni e h _ _ _ _ q:=by rw[ba,if_neg e]at h;cases h;exact PyProof.Rows.lt_int q
 ns e h _ _ _ _ q:=by rw[ba,if_neg e]at h;cases h;exact PySem.P.lt_str q
 mx:=by simp[ba]
 en:=λ{xs}=>by cases xs<;>simp[ba]
 fs:=by simp
theorem Qh:CmR prog w A s .Gt (λxs ys r=>ba ys xs=some r) (λm n=>decide (n<m)) where
 ei h:=by rwa [ba,if_pos rfl]at h
 es h:=by rwa [ba,if_pos rfl]at h
 ni e h _ _ _ _ q:=by rw[ba,if_neg (Ne.symm e)]at h;cases h;exact PyProof.Rows.gt_int q
 ns e h _ _ _ _ q:=by rw[ba,if_neg (Ne.symm e)]at h;cases h;exact PySem.P.gt_str q
 mx:=by simp[ba]
 en:=λ{xs}=>by cases xs<;>simp[ba]
 fs:=by simp
theorem F0 (hx:gZ s.heap xs (.ref a)):∃o its n,s.heap.get? a=some o/\o.data=.seq its n/\Paired zB xs its.toList/\xs.length=its.size:=by
 obtain⟨a',o,its,n,e,ho,hc,hd,p⟩:=hx;cases e
 exact⟨o,its,n,ho,hd,p,by rw[←vG];exact fO p⟩
theorem KZ {nm:String}(C:CmR prog w A s op R fl)(hz:∀m n,Builtin.Tuple.tupleCompareSizes op m n=.bool (fl m n))(Rc:op=.Lt∨op=.Gt∨op=.GtE)(hx:gZ s.heap xs (.ref a))(hy:gZ s.heap ys (.ref b))(h:R xs ys r)(q:P (.done (.ret (.bool r))) s):wpAny (model prog w) A (Vb nm op ⟨[.ref a,.ref b],[]⟩) P E s:=by
 have hb:=hy.type;obtain⟨_,_,_,ho,hd,p,l1⟩:=F0 hx;obtain⟨_,_,_,oR,AN,p',l2⟩:=F0 hy;exact IM hb ho hd oR AN (qc C _ _ _ _ p p' h) (by rw[l1,l2];exact hz _ _) Rc q
theorem F3 (hx:gZ s.heap xs x)(hy:gZ s.heap ys y)(h:ba xs ys=some r)(hu:A.units<cLine)(q:Q (.bool r) s):wpAny (model prog w) A (richCompare .Lt x y) Q E s:=by
 have tx:=hx.type;have ty:=hy.type;obtain⟨a,_,_,_,rfl,_⟩:=id hx;obtain⟨b,_,_,_,rfl,_⟩:=id hy;exact wpAny_richCompare_same_room (op:=.Lt) tx ty PySem.F.slot_tuple_lt (wpAny_call_entry PySem.F.slot_tuple_lt tx PySem.F.entry_tuple_lt (KZ Qg (λ_ _=>rfl) (.inl rfl) hx hy h ⟨_,rfl,(λe=>nomatch e),q⟩) (PySem.F.args_tuple_lt_2 _ _)) hu
theorem Qi (hx:gZ s.heap xs x)(hy:gZ s.heap ys y)(h:ba ys xs=some r)(hu:A.units<cLine)(q:Q (.bool r) s):wpAny (model prog w) A (richCompare .Gt x y) Q E s:=by
 have tx:=hx.type;have ty:=hy.type;obtain⟨a,_,_,_,rfl,_⟩:=id hx;obtain⟨b,_,_,_,rfl,_⟩:=id hy;exact wpAny_richCompare_same_room (op:=.Gt) tx ty PySem.F.slot_tuple_gt (wpAny_call_entry PySem.F.slot_tuple_gt tx PySem.F.entry_tuple_gt (KZ Qh (λ_ _=>rfl) (.inr (.inl rfl)) hx hy h ⟨_,rfl,(λe=>nomatch e),q⟩) (PySem.F.args_tuple_gt_2 _ _)) hu
end
def mw:List At×D->List (List At×D)->D
 |b,[]=>b.2
 |b,x::r=>if ba b.1 x.1=some true then mw x r else mw b r
def lg:List At×D->List (List At×D)->D
 |b,[]=>b.2
 |b,x::r=>if ba x.1 b.1=some true then lg x r else lg b r
noncomputable def WM {f:String->CmpOp->Builtin}(_:f "max" .Gt=Builtin.«max.loop»):=f
noncomputable def WN:String->CmpOp->Builtin:=WM rfl
noncomputable def WO {f:String->Builtin}(_:f "max" = Builtin.«max»):=f
noncomputable def WP:String->Builtin:=WO rfl
structure MM (nm lp:String)(ns:Str)(op:CmpOp)(lt:List At->List At->Option Bool)(go:List At×D->List (List At×D)->D):Prop where
 hn:(toString nm++toString ".loop" : String)=lp
 en:entryFor table lp=some (WN nm op)
 pl:plainId lp=true
 k2:builtinKind nm=none
 p2:plainId nm=true
 e2:entryFor table nm=some (WP nm)
 ka:∀a v:Value,argsOk nm ⟨[a],[(Str.ofString "key",v)]⟩
 bt:bootBuiltins ns=some (.builtin nm)
 n1:ns ≠ "__name__"
 n2:(ns == ("__debug__" : Str))=false
 g0:∀b,go b []=b.2
 g1:∀b x r,go b (x::r)=if lt b.1 x.1=some true then go x r else go b r
 cg:∀ {ks:List (List At)},eD ks=true->∀ {a b},a∈ks->b∈ks->∃r,lt a b=some r
 rc:∀ {prog:Program}{w:World}{A:Around}{E:Value->Shared->Prop}{s:Shared}{xs ys:List At}{x y:Value}{r:Bool}{Q:Value->Shared->Prop},gZ s.heap xs x->gZ s.heap ys y->lt ys xs=some r->A.units<cLine->Q (.bool r) s->wpAny (model prog w) A (richCompare op x y) Q E s
theorem Vc:MM "max" "max.loop" "max" .Gt ba mw :=
 ⟨by decide,PySem.F.entry_max_loop,PySem.F.plain_max_loop,PySem.F.kind_max,PySem.F.plain_max,PySem.F.entry_max,λ_ _=>by unfold argsOk;kernel_rfl,rfl,by decide,by decide,λ_=>rfl,λ_ _ _=>rfl,λh _ _ a b=>⟨_,gM h a b⟩,Qi⟩
theorem Tc:MM "min" "min.loop" "min" .Lt (λa b=>ba b a) lg :=
 ⟨by decide,PySem.F.entry_min_loop,PySem.F.plain_min_loop,PySem.F.kind_min,PySem.F.plain_min,PySem.F.entry_min,λ_ _=>by unfold argsOk;kernel_rfl,rfl,by decide,by decide,λ_=>rfl,λ_ _ _=>rfl,λh _ _ a b=>⟨_,gM h b a⟩,F3⟩
section
variable {X:Cx}{ae:List (Addr×Obj)}{σ:St}
theorem A1 (J:Inv X ((a1,o1)::(a2,o2)::ae) σ H' s'):Inv X ((a2,o2)::(a1,o1)::ae) σ H' s' :=
 J.pins_of λq hq=>J.pin q (by
  rcases vP hq with rfl|hq
  ·exact mY _ (mZ _ mX)
  ·rcases vP hq with rfl|hq
   ·exact mY _ mX
   ·exact mY _ (mZ _ (mZ _ hq)))
theorem qd (hp:∀q∈X.pn++ae,q.1≠a)(h:S≠a):∀q∈X.pn++((S,o)::ae),q.1≠a:=λq hq=>by
 rcases List.mem_append.mp hq with hq|hq
 ·exact hp q (List.mem_append_left _ hq)
 ·rcases vP hq with rfl|hq
  ·exact h
  ·exact hp q (mY _ hq)
theorem pj (I:Inv X ae σ H s)(r:aX v u)(i:Is X.K H v d)(e:yk d=some k):gZ s.heap k u:=by
 have:=ph I (ys:=[v]) (ds:=[d]) (ks:=[k]) (its:=[u]) (.cons r .nil) (.cons i .nil) (by simp only[dz,e];rfl);cases this;assumption
inductive MK (X:Cx)(ae:List (Addr×Obj))(σ:St)(S It l:Addr)(o:Obj)(j:Nat)(N H:Hp)(y:List At×D)(u ku:Value)(s:Shared):Prop
 |mk (H2 N2:Hp) (v kv:V) (kd:D) (oI:Obj) (J:Inv X ((S,o)::(It,oI)::ae) σ H2 s) (DX:s.heap.IsListIter It l (j+1)) (x:Ext N N2 H H2) (ru:aX v u) (iv:Is X.K N2 v y.2) (rk:aX kv ku) (ik:Is X.K N2 kv kd) (ek:yk kd=some y.1)
theorem F4 {E:Value->Shared->Prop}{It:Addr}(hh:X.A.handled=none)(Hn:B4 X X.A.in1 σ (.ref qa) B H1 kf)(hq:iA X.K B l vs)(iv:IsL X.K B vs ds)(em:jf kf ds=some gG)(ek:dz gG=some ks)(I0:X.s₀.heap.objs.size<=It)(NX:∀q∈X.pn++((S,o)::ae),q.1≠It)
  (NY:l≠It) (hz:(ks.zip ds)[j]? = some y) (I:Inv X ((S,o)::(It,oI)::ae) σ H s) (DX:s.heap.IsListIter It l j) (x1:Ext B N H1 H):
  wpAny (model X.prog X.w) X.A.in1 (pyNext (.ref It)) (λr s1=>∃u,r=some u/\wpAny (model X.prog X.w) X.A.in1 (call (.ref qa) [u]) (MK X ae σ S It l o j N H y u) (λ_ _=>False) s1) E s:=by
 obtain⟨its,rv,pl,_⟩:=I.list ((x1.bn.trans x1.nh).seq hq);obtain⟨hk,hd⟩:=List.getElem?_zip_eq_some.mp hz;obtain⟨v,hv,Lx⟩:=iv.get hd;obtain⟨kd,Sd,Ui⟩:=pY em hd;obtain⟨u,hu,ru⟩:=rv.get hv;have OK:yk kd=some y.1:=by
  have:=tF ek (i:=j) (vV Sd).1;rw[vF,Sd,vF,hk]at this;exact this
 refine(Walks.list (prog:=X.prog) (w:=X.w) (A:=X.A.in1) hh It l NY its.toArray).item j _ _ _ (by simpa using(vV hu).1) ⟨DX,pl.isList⟩ λu' h' Hm hP hst' fJ=>?_;have Kc:its[j]? = some u':=by simpa using hP
 rw[hu]at Kc;cases Kc;obtain⟨Ly,Us,JH,VY⟩:=id hst'.1;exact⟨u,rfl,cx (Hn _ _ H N v u y.2 kd (A1 (hU (t':=Hm) (A1 I) I0 NX (λb o n e=>fJ b o (by simpa using n) e) Us (λv z=>by rw[VY]at z;cases z))) x1.hh x1.bn x1.nh (Lx.mono x1.bn) ru Ui) λku s2 ⟨kv,H2,J4,rk,N2,x2,ik⟩=>
  ⟨H2,N2,v,kv,kd,Ly,J4,⟨Ly,(J4.pin (It,Ly) (mY _ (mZ _ mX))).1,JH,VY⟩,x2,ru,Lx.mono (x1.bn.trans x2.bn),rk,ik,OK⟩⟩
theorem IN {nm lp:String}{ns:Str}{op:CmpOp}{lt:List At->List At->Option Bool}{go:List At×D->List (List At×D)->D}(M:MM nm lp ns op lt go){qv:Value}{l S It:Addr}{vs:List V}{ds gG:List D}{ks:List (List At)}{B H1:Hp}{kf:D->Option D}{d0:D}{R:Result->Shared->Prop}(hh:X.A.handled=none)(hu:X.A.in1.units<cLine)(Hn:B4 X X.A.in1 σ qv B H1 kf)(Yw:∃a,qv=.ref a)(hq:iA X.K B l vs)(iv:IsL X.K B vs ds)
  (em:jf kf ds=some gG) (ek:dz gG=some ks) (hc:eD ks=true) (S0:X.s₀.heap.objs.size<=S) (I0:X.s₀.heap.objs.size<=It) (Re:∀q∈X.pn++ae,q.1≠S) (NX:∀q∈X.pn++ae,q.1≠It) (Em:S≠It) (Se:S≠l) (NY:l≠It)
  (hR:∀(s':Shared)(H' N:Hp)(v:V)(u:Value),Inv X ae σ H' s'->Ext B N H1 H'->aX v u->Is X.K N v d0->R (.ok (.ret u)) s'):
  ∀(r j:Nat)(s:Shared)(H N:Hp)(ub Eb:Value)(vb Rf:V)(db Rg:D)(kb:List At)(c:Nat)(oI:Obj),vs.length - j=r->j<=vs.length->Inv X ((S,seqObj "list" #[ub,Eb] c)::(It,oI)::ae) σ H s->s.heap.IsListIter It l j->Ext B N H1 H ->
   aX vb ub->Is X.K N vb db->aX Rf Eb->Is X.K N Rf Rg->yk Rg=some kb->kb∈ks->go (kb,db) ((ks.zip ds).drop j)=d0 ->
   codeAny (model X.prog X.w) X.A (.builtin lp ⟨[.ref It,qv,.ref S],[]⟩) R s:=by
 obtain⟨qa,rfl⟩:=Yw;intro r;induction r with
 |zero=>
  intro j s H N ub Eb vb Rf db Rg kb c oI hr hj I DX x1 r1 i1 r2 i2 ekb mk hd;have pS:=I.pin (S,seqObj "list" #[ub,Eb] c) (mY _ mX);have sB:aU B H:=x1.bn.trans x1.nh;obtain⟨its,rv,pl,_⟩:=I.list (sB.seq hq);have hl:=pl.isList;have W:=Walks.list (prog:=X.prog) (w:=X.w) (A:=X.A.in1) hh It l NY its.toArray;have hsz:its.toArray.size=its.length:=vH ..;have Cy:vs.length=its.length:=rv.length;have NR:ds.length=its.length:=by rw[←iv.length];exact rv.length
  have VZ:ks.length=ds.length:=by rw[kG ek,kh em]
  have AN:db=d0:=by
   rw[List.drop_of_length_le (by rw[List.length_zip];omega)]at hd;rw[M.g0]at hd;exact hd
  subst AN;refine codeAny_builtin M.en ?_;rw[Around.under_plainId M.pl _];show wpAny _ X.A.in1 (seqItems? (.ref S)>>=_) _ _ _;refine wX (wpAny_seqItems pS.1 rfl ?_);show wpAny _ X.A.in1 (tryCatch (pyNext (.ref It)) _>>=_) _ _ _;refine wX (wpAny_tryCatch (W.done _ _ _ ⟨by rw[hsz,show its.length=j by omega];exact DX,hl⟩ λh' Hm fJ=>?_));have J1:Inv X ((It,oI)::(S,seqObj "list" #[ub,Eb] c)::ae) σ H s:=A1 I;have Ut:∀q∈X.pn++((S,seqObj "list" #[ub,Eb] c)::ae),q.1≠It:=qd NX Em;have J2:Inv X ((S,seqObj "list" #[ub,Eb] c)::ae) σ H { s with heap:=h',toks:=Hm } :=
   (kg J1).turned (t':=Hm) (λb o n e=>fJ b o (by simpa using n) e) (J1.pin (It,oI) (mY _ mX)).2.1 (J1.pin (It,oI) (mY _ mX)).2.2.1 (.inr I0) (nq J1) Ut
  have Wa:=J2.pin (S,seqObj "list" #[ub,Eb] c) (mY _ mX);obtain⟨c2,Cu⟩:∃c2,(h'.update S (Obj.mapSeq λ_=>(#[]:Array Value))).get? S=some (seqObj "list" #[] c2):=⟨_,get?_update_seq Wa.1 λ_=>#[]⟩;have u2:=vW h' S (Obj.mapSeq λ_=>(#[]:Array Value));show wpAny _ X.A.in1 (updateSeq S (λ_=>#[])>>=_) _ _ _;refine wX ?_;refine wpAny_updateSeq Wa.1 rfl (wX (wpAny_letGo (wY ?_)));exact hR _ H N vb ub (kg (hU (t':=Hm) J2 S0 Re (λb o n e=>(u2.2 b n).trans e) Cu dc)) x1 r1 i1
 |succ r ih=>
  intro j s H N ub Eb vb Rf db Rg kb c oI hr hj I DX x1 r1 i1 r2 i2 ekb mk hd;have fG:j<(ks.zip ds).length:=by rw[List.length_zip,kG ek,kh em,←iv.length];omega
  have pS:=I.pin (S,seqObj "list" #[ub,Eb] c) (mY _ mX);have hz:=vU fG;rw[List.drop_eq_getElem_cons fG,M.g1]at hd;generalize (ks.zip ds)[j]=y at hz hd;have hm:y.1∈ks:=vL (List.getElem?_zip_eq_some.mp hz).1;obtain⟨r,Uu⟩:=M.cg hc mk hm;refine codeAny_builtin M.en ?_;rw[Around.under_plainId M.pl _];show wpAny _ X.A.in1 (seqItems? (.ref S)>>=_) _ _ _;refine wX (wpAny_seqItems pS.1 rfl ?_);show wpAny _ X.A.in1 (tryCatch (pyNext (.ref It)) _>>=_) _ _ _;refine wX (wpAny_tryCatch (cx (F4 hh Hn hq iv em ek I0 (qd NX Em) NY hz I DX x1) λ_ s1 ⟨u,e,h1⟩=>?_));subst e;show wpAny _ X.A.in1 (tryCatch (holding [u] (call (.ref qa) [u])) _>>=_) _ _ _;refine wX (wpAny_tryCatch (wpAny_holding (wpAny_mono h1 (λku s2 ⟨H2,N2,v,kv,kd,Ly,J4,Rh,x2,ru,Lx,rk,ik,OK⟩=>?_) λ_ _ z=>z.elim)));have t1:=pj J4 rk (ik.mono x2.nh) OK;have t2:=pj J4 r2 (i2.mono (x2.bn.trans x2.nh)) ekb;show wpAny _ X.A.in1 (tryCatch (holding [u,ku] (richCompare op ku Eb>>=_)) _>>=_) _ _ _;refine wX (wpAny_tryCatch (wpAny_holding (wX (M.rc t1 t2 Uu hu ?_))));refine wX (wpAny_holding (wpAny_truthy_bool ?_));refine wX (wpAny_letGo (wY ?_));cases r with
  |true=>
   rw[if_pos Uu]at hd;have u2:=vW s2.heap S (Obj.mapSeq λ_=>#[u,ku]);simp only[if_true];have Ri:=J4.pin (S,seqObj "list" #[ub,Eb] c) (mY _ mX);refine wX (wpAny_updateSeq Ri.1 rfl (wX (wpAny_letGo ?_)));rw[M.hn];obtain⟨o,g1,g2⟩:=Rh;exact wY ⟨plainId_quiet M.pl _,ih (j+1) _ H2 N2 u ku v kv y.2 kd y.1 _ Ly (by omega) (by omega) (hU (t':=s2.toks) J4 S0 (qd Re Em.symm) (λb o n e=>(u2.2 b n).trans e) (get?_update_seq Ri.1 λ_=>#[u,ku]) dc) ⟨o,(u2.2 It Em.symm).trans g1,g2⟩ (x1.trans x2) ru Lx rk ik OK hm hd⟩
  |false=>
   rw[if_neg (by rw[Uu];simp)]at hd;simp only[uV,if_false];refine wX (wpAny_letGo ?_);rw[M.hn];exact wY ⟨plainId_quiet M.pl _,ih (j+1) _ H2 N2 ub Eb vb Rf db Rg kb c Ly (by omega) (by omega) J4 Rh (x1.trans x2) r1 (i1.mono x2.bn) r2 (i2.mono x2.bn) ekb mk hd⟩
end
@[simp] def MX (go:List At×D->List (List At×D)->D)(f:FE)(kf:Env->D->Option D):FE:=λρ=>(f ρ).bind λx=>match x.1 with
 |.lst ds=>(jf (kf ρ) ds).bind λgG=>(dz gG).bind λks=>if eD ks=true then match ks.zip ds with
  |[]=>none
  |y::r=>some (go y r,false)
  else none
 |_=>none
@[simp] def tI:=MX mw
@[simp] def tJ:=MX lg
section
variable {X:Cx}{e ke:Expr}{p pos kp:Pos}
theorem yu {nm lp:String}{ns:Str}{op:CmpOp}{lt:List At->List At->Option Bool}{go:List At×D->List (List At×D)->D}(M:MM nm lp ns op lt go){f:FE}{kf:Env->D->Option D}{k:Nat}(hm:X.mg ns=none)(he:JE X e f)(hk:JK X X.A.in1 ke kf)(hr:eN k X.A)(hg:Gl X ns:=by rfl)
  (Ul:starEach [e] X.env=[(false,eval e X.env)]:=by rfl) (Um:backTo pos (starEach [e] X.env)=(false,eval e X.env)::backTo pos (starEach [] X.env):=by rfl) (ls:(backTo pos (starEach [e] X.env)).any (·.1)=false:=by rfl)
  (mO:(backToKw pos (keywordEach [⟨some "key",ke,kp⟩] X.env)).all (·.1.isSome)=true:=by rfl) (Uo:(backToKw pos (keywordEach [⟨some "key",ke,kp⟩] X.env)).any (·.1.isNone)=false:=by rfl)
  (Uq:(backToKw pos (keywordEach [⟨some "key",ke,kp⟩] X.env)).filterMap (·.1)=[("key" : Str)]:=by rfl):
  JE X (.Call (.Name ns p) [e] [⟨some "key",ke,kp⟩] pos) (MX go f kf):=by
 intro ae s σ H Q I h;obtain⟨B,ρ,d,b,sB,rep,ee,q⟩:=h;obtain⟨⟨xd,xb⟩,ex,ee⟩:=oX ee;cases xd<;>try (cases ee;done)
 rename_i ds;obtain⟨gG,em,ee⟩:=oX ee;obtain⟨ks,ek,ee⟩:=oX ee;split at ee
 ·rename_i hc;split at ee
  ·cases ee
  ·rename_i y aC ez;cases ee
   refine wpAny_Call_Name_kw (lx I hg hm M.bt ?_ M.n1 M.n2);refine callWith_kw (cx ((iF he jR Ul) pos ae s σ H (λvs H1=>∃v N,vs=[v]/\Ext B N H H1/\Is X.K N v (.lst ds)) I ⟨B,ρ,_,_,sB,rep,ex,λv H1 N x1 i1 _=>⟨v,N,rfl,x1,i1⟩⟩) λus s1 hA=>?_) Um ls mO Uo;obtain⟨Ys,H1,I1,r1,v,N,rfl,x1,i1⟩:=hA;obtain⟨u,rfl,ru⟩:=gP r1;refine kws_cons (hk ae s1 σ H1 N ρ _ _ I1 x1.nh (rep.mono x1.bn) λqa H2 s2 I2 m2 Hn=>kws_nil ?_);rw[Uq];show wpAny _ _ (call (.builtin nm) [u] [(("key" : Str),.ref qa)]) _ _ _;cases i1
   rename_i l vs hq il;cases ru
   have sN:aU N H2:=x1.nh.trans m2;obtain⟨its,rv,pl,hz⟩:=I2.list (sN.seq hq);have Rj:l<s2.heap.objs.size:=by
    obtain⟨ol,NQ,_⟩:=pl.isList;exact vX NQ
   have z0:(ks.zip ds)[0]? = some y:=by rw[ez];rfl
   have Yx:=vL (List.getElem?_zip_eq_some.mp z0).1;refine kmk_tree M.k2 M.p2 M.e2 (M.ka _ _) ?_;show wpAny _ X.A.in1 (Builtin.Builtins.bindParams nm ["key","default"] 0 ⟨[],[(Str.ofString "key",.ref qa)]⟩>>=_) _ _ s2;refine wX (wpAny_of_eq (show Builtin.Builtins.bindParams nm ["key","default"] 0 ⟨[],[(Str.ofString "key",.ref qa)]⟩=pure [some (.ref qa),none]from rfl) ?_);refine wX (wY ?_);refine wX (wpAny_pyIter_list pl.isList ?_);refine wX (wpAny_newList ?_ (uN _));rw[M.hn];let It:Addr:=s2.heap.objs.size;let oI:Obj:={ cls:=.type "list_iterator",data:=.fields #[.ref l,.int 0 0] };let S:Addr:=(s2.heap.push oI).objs.size;have hS:S=s2.heap.objs.size+1:=size_push' ..;have Em:S≠It:=by rw[hS];exact Nat.ne_of_gt (Nat.lt_succ_self _)
   have J1:Inv X ((It,oI)::ae) σ H2 { s2 with heap:=s2.heap.push oI }:=pi (t':=s2.toks) I2 (λb u q=>vZ _ q) (vT _) (vY _ rfl) (λv z=>by cases z);have J2:Inv X ((S,seqObj "list" #[] 0)::(It,oI)::ae) σ H2 { s2 with heap:=(s2.heap.push oI).push (seqObj "list" #[] 0) }:=pi (s:={ s2 with heap:=s2.heap.push oI }) (t':=s2.toks) J1 (λb u q=>vZ _ q) (vT _) (vY _ rfl) dc;have I0:X.s₀.heap.objs.size<=It:=I2.sz;have S0:X.s₀.heap.objs.size<=S:=by rw[hS];exact Nat.le_succ_of_le I2.sz
   have NX:∀q∈X.pn++ae,q.1≠It:=λq hq=>vS (vX (I2.pin q hq).1);have Re:∀q∈X.pn++ae,q.1≠S:=λq hq=>by rw[hS];exact vS (Nat.lt_succ_of_lt (vX (I2.pin q hq).1))
   have NY:l≠It:=vS Rj;have Se:S≠l:=by rw[hS];exact Nat.ne_of_gt (Nat.lt_succ_of_lt Rj)
   have hh:X.A.handled=none:=hr.hd;have hu:X.A.in1.units<cLine:=by have:=hr.un;show X.A.units+1<cLine;omega
   have pS:=J2.pin (S,seqObj "list" #[] 0) (mY _ mX);have pI:=J2.pin (It,oI) (mY _ (mZ _ mX));refine wY ⟨plainId_quiet M.pl _,?_⟩;refine codeAny_builtin M.en ?_;rw[Around.under_plainId M.pl _];show wpAny _ X.A.in1 (seqItems? (.ref S)>>=_) _ _ { s2 with heap:=(s2.heap.push oI).push (seqObj "list" #[] 0) };refine wX (wpAny_seqItems pS.1 rfl ?_);show wpAny _ X.A.in1 (tryCatch (pyNext (.ref It)) _>>=_) _ _ _;refine wX (wpAny_tryCatch (cx (F4 hh Hn hq il em ek I0 (qd NX Em) NY z0 J2 ⟨oI,pI.1,rfl,rfl⟩ (.refl sN)) λ_ s1 ⟨u,e,h1⟩=>?_));subst e;show wpAny _ X.A.in1 (tryCatch (holding [u] (call (.ref qa) [u])) _>>=_) _ _ _;refine wX (wpAny_tryCatch (wpAny_holding (wpAny_mono h1 (λku s3 ⟨H3,N3,v,kv,kd,Ly,J4,⟨o,g1,g2⟩,x3,ru,Lx,rk,ik,OK⟩=>?_) λ_ _ z=>z.elim)));have Ri:=J4.pin (S,seqObj "list" #[] 0) (mY _ mX);have u2:=vW s3.heap S (Obj.mapSeq λ_=>#[u,ku]);show wpAny _ X.A.in1 (updateSeq S (λ_=>#[u,ku])>>=_) _ _ _;refine wX (wpAny_updateSeq Ri.1 rfl ?_);rw[M.hn];have Uv:1<=vs.length:=by
    have:=congrArg List.length ez;rw[List.length_zip,vE,←il.length]at this;omega
   exact wY ⟨plainId_quiet M.pl _,IN M (S:=S) (It:=It) hh hu Hn ⟨qa,rfl⟩ hq il em ek hc S0 I0 Re NX Em Se NY (λs' H' N' v' u' J' x' r' i'=>⟨v',H',J',r',q _ _ _ ((x1.trans (.grow x1.nh m2)).trans x') i' (by simp)⟩) _ 1 _ H3 N3 u ku v kv y.2 kd y.1 _ Ly rfl Uv
    (hU (t':=s3.toks) J4 S0 (qd Re Em.symm) (λb o n e=>(u2.2 b n).trans e) (get?_update_seq Ri.1 λ_=>#[u,ku]) dc) ⟨o,(u2.2 It Em.symm).trans g1,g2⟩ x3 ru Lx rk ik OK Yx (by rw[ez];rfl)⟩
 ·cases ee
end
section
variable {X:Cx}
@[simp] def LD:D->D->OB
 |.tup xs,.tup ys=>(eW xs).bind λas=>(eW ys).bind λbs=>(ba as bs).map λr=>(.bl r,false)
 |_,_=>none
@[simp] def W4:D->D->OB
 |.tup xs,.tup ys=>(eW xs).bind λas=>(eW ys).bind λbs=>(ba bs as).map λr=>(.bl r,false)
 |_,_=>none
theorem Qj (hu:X.A.units+40<cLine):dr X (compareOp .Lt) (rD X.K LD):=by
 intro ae s σ H x y v u Q I rx ry q;obtain⟨B,dx,dy,d,b,sB,ix,iy,e,q⟩:=q;cases dx<;>try (simp[LD]at e;done)
 cases dy<;>try (simp[LD]at e;done)
 simp only[LD]at e;obtain⟨as,e1,e⟩:=oX e;obtain⟨bs,e2,e⟩:=oX e;obtain⟨r,e3,e⟩:=oY e;cases e
 show wpAny _ _ (richCompare .Lt v u) _ _ _;exact F3 (pj I rx (ix.mono sB) e1) (pj I ry (iy.mono sB) e2) e3 (by omega) ⟨.bl r,H,I,rfl,q.one sB (.bl r)⟩
end
section
variable {X:Cx}{a b:Expr}{p pos:Pos}
@[simp] def B6 (f g:FE):FA:=λρ=>(f ρ).bind λx=>(g ρ).bind λy=>match x.1,y.1 with
 |.int i,.int j=>if -1000<=i/\i<=1000/\-1000<=j/\j<=1000 then some (eG i (j - i).toNat)else none
 |_,_=>none
theorem Dp (hm:X.mg "range" = none)(h:JE X a f)(h':JE X b g)(hg:Gl X "range":=by rfl)(hs:starEach [a,b] X.env=[(false,eval a X.env),(false,eval b X.env)]:=by rfl)(DM:starEach [b] X.env=[(false,eval b X.env)]:=by rfl):PI X tg (.Call (.Name "range" p) [a,b] [] pos) (P8 X.K (B6 f g)):=by
 refine PI.to (C7 hg hm (ah h (ah h' ao DM) (by rw[hs,DM])) hs DM) λσ H R q=>?_;obtain⟨B,ρ,ds,sB,r,e',q⟩:=q;obtain⟨⟨x,xb⟩,ex,e'⟩:=oX e';obtain⟨⟨y,yb⟩,ey,e'⟩:=oX e';match x,y,ex,ey,e' with
 |.int i,.int j,ex,ey,e'=>
  dsimp only at e';split at e'
  ·rename_i hj;cases e'
   refine⟨B,ρ,[.int i,.int j],sB,r,by simp[af,aj,ex,ey],λvs H1 N1 x1 i1=>?_⟩;cases i1 with
   |cons i1 i2=>
    cases i1
    cases i2 with
    |cons i2 i3=>
     cases i2;cases i3
     exact⟨i,j,rfl,by omega,q _ H1 N1 x1 λ_=>xN i (j - i).toNat⟩
  ·cases e'
end
@[simp] def Vd:List D->OB
 |[.tup xs,.tup ys]=>(eW xs).bind λas=>(eW ys).bind λbs=>(ba as bs).map λr=>(if r=true then .tup ys else .tup xs,false)
 |_=>none
end DL
namespace DL
open PySem PySem.Spec PyProof.Rows L2
section
variable {X:Cx}
noncomputable def tK:D->D->OB
 |.tup xs,.tup ys=>if xs.isEmpty=true then some (.tup ys,false)else none
 |_,_=>none
theorem IP:dr X (binaryOp .Add) (rD X.K tK):=by
 intro ae s σ H x y v u Q I rx ry q;obtain⟨B,dx,dy,d,bb,sB,ix,iy,ee,q⟩:=q;cases ix<;>try (cases ee;done)
 cases iy<;>try (cases ee;done)
 rename_i l vs ds h hl l' ws es h' DS;simp only[tK]at ee;split at ee
 ·rename_i hz;cases ee
  cases rx
  cases ry
  obtain⟨its,r1,p1,_⟩:=I.tuple (be sB h);obtain⟨Q3,r2,p2,_⟩:=I.tuple (be sB h');have he:its.toArray.isEmpty=true:=by
   have e1:=hl.length;have e2:=r1.length;have e3:=List.isEmpty_iff.mp hz;rw[e3]at e1;cases its with
   |nil=>rfl
   |cons a b=>rw[e1]at e2;simp at e2
  obtain⟨⟨cls,dd,data,sl⟩,ho,hc,n,hd⟩:=id p1;obtain⟨⟨T5,NA,data2,RQ⟩,JN,Cu,n2,JP⟩:=id p2;dsimp only at hc hd Cu JP;subst hc;subst hd;subst Cu;subst JP;exact concat_meets ⟨_,ho,rfl⟩ ⟨_,JN,rfl⟩ noFill_tuple_add seq_tuple_add PySem.F.slot_tuple_add PySem.F.entry_tuple_add (PySem.F.args_tuple_add_2 _ _)
   (tuple_addW0 l l' its.toArray Q3.toArray n n2 dd NA sl RQ he) ⟨ho,JN,⟨.ref l',H,I,rfl,q.one sB (.tup h' DS)⟩⟩
 ·cases ee
@[simp] noncomputable def B7:D->D->OB
 |.tup xs,.tup ys=>if xs.length+ys.length<=sizeLine then some (.tup (xs++ys),false)else none
 |_,_=>none
theorem IQ (xs ys:List D)(z:xs.length+ys.length<=sizeLine):Ee sg tK (.tup xs) (.tup ys)=some (.tup (xs++ys),false):=by
 cases xs with
 |nil=>
  have:sg (.tup []) (.tup ys)=none:=if_neg (λh=>by cases h.2);show(match sg (.tup []) (.tup ys) with|some z=>some z|none=>tK (.tup []) (.tup ys))=_;rw[this];rfl
 |cons a l=>
  have:sg (.tup (a::l)) (.tup ys)=some (.tup (a::l++ys),false):=if_pos ⟨z,rfl⟩;show(match sg (.tup (a::l)) (.tup ys) with|some z=>some z|none=>tK (.tup (a::l)) (.tup ys))=_;rw[this]
theorem F5:dr X (binaryOp .Add) (rD X.K B7):=by
 refine iR (r:=rD X.K (Ee sg tK)) (mU EU IP) λx y H Q q=>?_;obtain⟨B,dx,dy,d,bb,sB,ix,iy,ee,q⟩:=q;refine⟨B,dx,dy,d,bb,sB,ix,iy,?_,q⟩;cases ix<;>try (cases ee;done)
 cases iy<;>try (cases ee;done)
 rename_i l vs ds h hl l' ws es h' DS;simp only[B7]at ee;split at ee
 ·rename_i hz;rw[IQ _ _ hz];exact ee
 ·cases ee
end
section
variable {X:Cx}
@[simp] def RF:List D->OB
 |[d,.tup [.ty n,.ty m]]=>if PU d=true then none else if n = "list"/\m = "tuple" then some (.bl (MC d == "list" || MC d == "tuple"),false)else none
 |_=>none
end
@[simp] noncomputable def ki:D->Option cw
 |.int i=>some (.inl i)
 |.str x=>some (.inr x)
 |_=>none
theorem tL {K:Frag}{B:Hp}{v:V}{d:D}{k:cw}(i:Is K B v d)(e:ki d=some k):v=kV k:=by
 cases i<;>simp only[ki]at e<;>cases e<;>rfl
noncomputable def cB {κ:Type}[DecidableEq κ]:List κ->List D->κ->Option D
 |k'::ks,d::ds,k=>if k'=k then some d else cB ks ds k
 |_,_,_=>none
theorem wj {κ:Type}[DecidableEq κ]{K:Frag}{B:Hp}(k:κ):∀ {ks:List κ}{vs:List V}{ds:List D},ks.length=vs.length->IsL K B vs ds ->
  (∃v d,jT (ks.zip vs) k=some v/\cB ks ds k=some d/\Is K B v d)∨(jT (ks.zip vs) k=none/\cB ks ds k=none)
 |[],vs,ds,_,_=>.inr ⟨by cases vs<;>rfl,by cases ds<;>rfl⟩
 |k'::ks,[],_,h,_=>by simp at h
 |k'::ks,v::vs,_,h,.cons i is=>by
  rw[List.zip_cons_cons];unfold cB;by_cases e:k'=k
  ·rw[if_pos e];exact .inl ⟨v,_,lS (p:=(k',v)) e,rfl,i⟩
  ·rw[if_neg e,lU (p:=(k',v)) e];exact wj k (by simpa using h) is
section
variable {X:Cx}{o e i:Expr}{pos:Pos}
@[simp] def F6:D->D->OB
 |.dk ks vs,y=>(ki y).map λk=>((cB ks vs k).getD .non,false)
 |_,_=>none
theorem F7 {dw cA:Pos}{fo fe:FE}(hu:X.A.units+1<cLine)(ho:JE X o fo)(he:JE X e fe)(m:M1 X o "get" dw e cA):JE X (.Call (.Attribute o "get" dw) [e] [] cA) (f2 F6 fo fe):=by
 refine PE.to (xl hu ho he m) λσ H Q q=>?_;obtain⟨B,ρ,d,bb,sB,r,ee,q⟩:=q;obtain⟨x,ex,ee⟩:=oX ee;obtain⟨y,ey,ee⟩:=oX ee;refine⟨B,ρ,x.1,x.2,sB,r,ex,λv H1 N1 x1 i1 ff=>?_⟩;obtain⟨xd,xb⟩:=x;cases i1 with
 |@dk a ks vs ds ob h hl hs=>
  simp only[F6]at ee;obtain⟨k,hk,ee⟩:=oY ee;cases ee
  refine⟨a,rfl,.inl ⟨_,_,.inl (x1.nh _ _ h)⟩,N1,ρ,y.1,y.2,x1.nh,r.mono x1.bn,ey,λv2 H2 N2 x2 i2 _=>?_⟩;have hv:=tL i2 hk;subst hv;refine⟨jT (ks.zip vs) k,.inl ⟨_,k,_,.inl (x2.nh _ _ (x2.bn _ _ h)),rfl,rfl⟩,?_⟩;have DM:=hs.mono x2.bn;rcases wj k hl DM with⟨v,d',e1,e2,i3⟩|⟨e1,e2⟩
  ·rw[e1];rw[e2]at q;exact(q.into (x1.trans x2)).one x2.nh i3
  ·rw[e1];rw[e2]at q;exact(q.into (x1.trans x2)).one x2.nh .non
 |_=>simp[F6]at ee
@[simp] def Zl:D->D->OB
 |.dk ks vs,y=>(ki y).bind λk=>(cB ks vs k).map λd=>(d,false)
 |_,_=>none
@[simp] def RG:D->D->OB
 |y,.dk ks vs=>(ki y).map λk=>(.bl (cB ks vs k).isSome,false)
 |_,_=>none
@[simp] def Td:D->D->OB
 |y,.dk ks vs=>(ki y).map λk=>(.bl (!(cB ks vs k).isSome),false)
 |_,_=>none
theorem Dq {κ:Type}[DecidableEq κ]{K:Frag}{B:Hp}{k:κ}{ks:List κ}{vs:List V}{ds:List D}(hl:ks.length=vs.length)(hs:IsL K B vs ds):(jT (ks.zip vs) k).isSome=(cB ks ds k).isSome:=by
 rcases wj k hl hs with⟨v,d,e1,e2,_⟩|⟨e1,e2⟩
 ·rw[e1,e2];rfl
 ·rw[e1,e2];rfl
end
noncomputable def dA {κ:Type}[DecidableEq κ](ks:List κ)(k:κ):List κ:=if k∈ks then ks else ks++[k]
noncomputable def dB {κ α:Type}[DecidableEq κ](ks:List κ)(xs:List α)(k:κ)(x:α):List α:=if k∈ks then List.zipWith (λk' x'=>if k'=k then x else x') ks xs else xs++[x]
theorem B8 {κ:Type}[DecidableEq κ](k:κ):∀ {ks:List κ}{vs:List V},ks.length=vs.length->((ks.zip vs).any λkv=>decide (kv.1=k))=decide (k∈ks)
 |[],_,_=>by simp
 |k'::ks,[],h=>by simp at h
 |k'::ks,v::vs,h=>by
  have ih:=B8 k (ks:=ks) (vs:=vs) (by simpa using h);rw[List.zip_cons_cons,List.any_cons,ih];by_cases e:k'=k
  ·simp[e]
  ·have e':¬k=k':=λz=>e z.symm;simp[e,e']
theorem B9 {κ:Type}[DecidableEq κ](k:κ)(v:V):∀(ks:List κ)(vs:List V),(ks.zip vs).map (λkv=>if kv.1=k then (kv.1,v)else kv)=ks.zip (List.zipWith (λk' x'=>if k'=k then v else x') ks vs)
 |[],_=>by simp
 |_::_,[]=>by simp
 |k'::ks,w::vs=>by
  rw[List.zip_cons_cons,uY,B9 k v ks vs,List.zipWith_cons_cons,List.zip_cons_cons];by_cases e:k'=k
  ·simp[e]
  ·simp[e]
theorem pq {κ:Type}[DecidableEq κ]{ks:List κ}{vs:List V}(hl:ks.length=vs.length)(k:κ)(v:V):lR (ks.zip vs) k v=(dA ks k).zip (dB ks vs k v):=by
 unfold lR dA dB;rw[B8 k hl];by_cases h:k∈ks
 ·rw[if_pos (decide_eq_true h),if_pos h,if_pos h,B9]
 ·rw[if_neg (by simpa using h),if_neg h,if_neg h,List.zip_append hl];rfl
theorem mz {κ α:Type}[DecidableEq κ]{ks:List κ}{xs:List α}(hl:ks.length=xs.length)(k:κ)(x:α):(dA ks k).length=(dB ks xs k x).length:=by
 unfold dA dB;split<;>simp[hl]
theorem IsL.zipWith {κ:Type}[DecidableEq κ]{K:Frag}{B:Hp}{k:κ}{v:V}{d:D}(i:Is K B v d):∀ {ks:List κ}{vs:List V}{ds:List D},IsL K B vs ds->IsL K B (List.zipWith (λk' x'=>if k'=k then v else x') ks vs) (List.zipWith (λk' x'=>if k'=k then d else x') ks ds)
 |[],_,_,_=>by simpa using IsL.nil
 |_::_,_,_,.nil=>by simpa using IsL.nil
 |k'::ks,_,_,.cons h t=>by
  rw[List.zipWith_cons_cons,List.zipWith_cons_cons];refine .cons ?_ (IsL.zipWith i t);by_cases e:k'=k
  ·rw[if_pos e,if_pos e];exact i
  ·rw[if_neg e,if_neg e];exact h
theorem IsL.put {κ:Type}[DecidableEq κ]{K:Frag}{B:Hp}{k:κ}{v:V}{d:D}(i:Is K B v d){ks:List κ}{vs:List V}{ds:List D}(h:IsL K B vs ds):IsL K B (dB ks vs k v) (dB ks ds k d):=by
 unfold dB;split
 ·exact h.zipWith i
 ·exact h.append (.cons i .nil)
section
variable {K:Frag}{E:Ends}{σ:St}{H:Hp}
noncomputable def BA (i:Nat):FS:=λρ=>some (.nx (ρ.set i (some (.dk [] [],true))))
noncomputable def F8 (i:Nat):FS:=λρ=>some (.nx (ρ.set i (some (.dt [] [],true))))
theorem eE.newBox (s:eE K B0 H0 N H σ ρ)(i:Nat)(hp:H p=none)(hb:∀C,Bx K C ob dd):eE K B0 H0 (upd N p ob) (upd H p ob) (σ.set i (some (.ref p))) (ρ.set i (some (dd,true))):=by
 have x:=Ext.laid (o:=ob) s.ext.nh hp;have s1:=s.grow x;have Wb:N p=none:=s.ext.nh.free hp;have Rc:¬own σ ρ p:=λz=>by obtain⟨ws,⟨q,_⟩,_⟩:=s.owned z;rw[Wb]at q;cases q
 have c:aU (dY N (own σ ρ)) (dY (upd N p ob) (λb=>own σ ρ b∨b=p)):=eJ λb u e q=>⟨x.bn _ _ e,λz=>z.elim q λz=>by subst z;rw[Wb]at e;cases e⟩;refine s1.bindOwn aE (s.ext.hh.free hp) (λj e q z=>Rc ⟨j,e,q,z⟩) (λj e _ q=>?_) (λj e _ q=>?_) (hb _)
 ·obtain⟨w,h1,h2⟩:=s.sh j e q;exact⟨w,h1,h2.mono c⟩
 ·obtain⟨a',o',h1,h2,_,h4⟩:=s.ow j e q;exact⟨a',o',h1,x.bn _ _ h2,h4.mono c⟩
theorem F9 (q:nV K (BA i) E σ H):zE E5 (jF i) E σ H:=by
 obtain⟨B0,H0,ρ,r,⟨N,s⟩,e,p⟩:=q;cases e
 exact λa ob ha=>p _ _ ⟨_,s.newBox i ha λ_=>.dk (ks:=[]) (vs:=[]) rfl .nil⟩
theorem FC (q:nV K (F8 i) E σ H):zE E6 (jF i) E σ H:=by
 obtain⟨B0,H0,ρ,r,⟨N,s⟩,e,p⟩:=q;cases e
 exact λa ha=>p _ _ ⟨_,s.newBox i ha λ_=>.dt (ks:=[]) (vs:=[]) rfl .nil⟩
def yv (i:Nat)(fk fv:FE):FS:=λρ=>match ρ[i]? with
 |some (some (.dk ks vs,true))=>(fv ρ).bind λv=>(fk ρ).bind λk=>(ki k.1).bind λkk=>if bu v.1=true/\ks.length<sizeLine then some (.nx (ρ.set i (some (.dk (dA ks kk) (dB ks vs kk v.1),true))))else none
 |_=>none
theorem FD {i:Nat}{fk fv:FE}(q:nV K (yv i fk fv) E σ H):Ba (Eo i) (tD K fk) (tD K fv) E σ H:=by
 obtain⟨B0,H0,ρ,r,⟨N,s⟩,e,p⟩:=q;unfold yv at e;split at e
 ·rename_i ks ds ei;obtain⟨v,ev,e⟩:=oX e;obtain⟨k,ek,e⟩:=oX e;obtain⟨kk,hk,e⟩:=oX e;split at e
  ·rename_i hx;cases e
   refine⟨N,ρ,v.1,v.2,s.ext.nh,s.rep,ev,λv1 H1 N1 x1 i1 _=>?_⟩;have s1:=s.grow x1;obtain⟨a,o,h1,h2,h3,h4⟩:=s1.ow i _ ei;refine⟨.ref a,h1,N1,ρ,k.1,k.2,s1.ext.nh,s1.rep,ek,λv2 H2 N2 x2 i2 _=>?_⟩;have s2:=s1.grow x2;have hv:=tL i2 hk;subst hv;obtain⟨a',o',k1,k2,k3,k4⟩:=s2.ow i _ ei;rw[h1]at k1;cases k1
   cases k4 with
   |@dk ks vs ds hl h5 ob=>
    refine⟨a,rfl,.inl ⟨_,kk,_,s2.ext.nh _ _ k2,rfl,?_,λTC=>?_⟩⟩
    ·rw[List.length_zip];omega
    ·rw[pq hl];exact p σ _ ⟨_,s2.writeB ei h1 (.dk (mz hl _ _) (h5.put (s2.flat (i1.mono x2.bn) hx.1)))⟩
  ·cases e
 ·cases e
end
section
variable {X:Cx}{pos:Pos}{e k:Expr}
theorem BB (hN:X.N.Nodup)(hi:X.N[i]? = some x:=by rfl)(hx:Ha X.env.scope x:=by first|exact Or.inl rfl|exact Or.inr rfl)(hs:swapsWith (.Dict [] [] dp) (some (.Name x p)) pos.line X.env=pure false:=by rfl)
  (hf:X.fn x=true∨X.env.scope.names.lookup x=some .local:=by first|exact .inl rfl|exact .inr rfl):JS X (.Assign [.Name x p] (.Dict [] [] dp) pos) (BA i):=PS.to (u6 hN hi hx E7 hs hf) λ_ _ _ q=>F9 q
theorem IS (hN:X.N.Nodup)(hi:X.N[i]? = some x:=by rfl)(hx:Ha X.env.scope x:=by first|exact Or.inl rfl|exact Or.inr rfl)(hs:swapsWith (.Dict [] [] dp) (some (.Name x p)) pos.line X.env=pure false:=by rfl)
  (hf:X.fn x=true∨X.env.scope.names.lookup x=some .local:=by first|exact .inl rfl|exact .inr rfl):JS X (.Assign [.Name x p] (.Dict [] [] dp) pos) (F8 i):=PS.to (u6 hN hi hx E8 hs hf) λ_ _ _ q=>FC q
theorem IT (hu:X.A.units+1<cLine)(hv:JE X e fv)(hk:JE X k fk)(hN:X.N[i]? = some y:=by rfl)(AR:En X.env.scope y:=by first|exact Or.inl rfl|exact Or.inr (Or.inl rfl)|exact Or.inr (Or.inr rfl))(hd:(y == ("__debug__" : Str))=false:=by decide)
  (jv:(y == ("__classdict__" : Str))=false:=by decide) (hs:swapsWith e (some (.Subscript (.Name y py) k pt)) pos.line X.env=pure false:=by rfl):JS X (.Assign [.Subscript (.Name y py) k pt] e pos) (yv i fk fv) :=
 PS.to (uK hu (lw hN AR hd jv) hk hv hs) λ_ _ _ q=>FD q
end
section
variable {prog:Program}{w:World}{A:Around}{E:Value->Shared->Prop}{s:Shared}
abbrev MY (h:Heap)(z TI TO T0:Addr)(f:Bool):Prop:=h.get? z=some { cls:=.type "zip",dict:=none,data:=.fields #[rawInt T0,.bool f,.bool false,.ref TI,.ref TO],slots:=#[] }
end
def Ve (k1 k2:Bool)(z TI TO i1 i2 l1 l2 S:Addr)(i:Nat)(h:Heap):Prop :=
 IsPair h TI (.ref i1) (.ref i2)/\Bo k1 h i1 l1 i/\Bo k2 h i2 l2 i/\((IsZip h z TI TO .none/\∃a b,IsPair h TO a b)∨∃T0 f oT oO,MY h z TI TO T0 f/\h.get? T0=some oT/\T0∉[z,TI,TO,i1,i2]/\T0≠S/\h.get? TO=some oO)
section
variable {prog:Program}{w:World}{A:Around}{E:Value->Shared->Prop}{s:Shared}{k1 k2:Bool}{z TI TO i1 i2 l1 l2 S:Addr}{j:Nat}{xs ys:Array Value}
theorem Ve.ty (st:Ve k1 k2 z TI TO i1 i2 l1 l2 S j h):∃o,h.get? z=some o/\o.cls=.type "zip":=by
 obtain⟨_,_,_,a4⟩:=st;rcases a4 with⟨b1,_⟩|⟨T0,f,oT,oO,b1,_⟩
 ·exact⟨_,b1,rfl⟩
 ·exact⟨_,b1,rfl⟩
end
theorem qe (h:H a=none):aU H (upd H a o):=λb u e=>by rw[aH (aV e h)];exact e
@[simp] def Zm (fa fb:FE):FE:=λρ=>(SU fa fb ρ).map λds=>(.lst ds,true)
end DL
namespace DL
open PySem PySem.Spec PyProof.Rows
theorem wl:typeLookup (.type "list") "keys" = pure none:=by rw[typeLookup_type,builtinLookup_eq_fast];kernel_rfl
theorem Dr 
  (hx:s.heap.get? a=some { cls:=.type "list",dict:=none,data:=.seq xs k,slots:=sl }) (hA:A.handled=none)
  (h:∀h' tk,(∀b o,s.heap.get? b=some o->h'.get? b=some o)->Q none { s with heap:=h',toks:=tk }):
  wpAny (model prog w) A (getAttr? (.ref a) "keys") Q E s:=by
 obtain⟨hp,g,d,tk,os⟩:=s;have hT:∀Hm,(⟨hp,g,d,Hm,os⟩:Shared).TypeIs (.ref a) "list":=λ_=>⟨_,hx,rfl⟩;have f1:=sub_AttributeError;have f3:=PySem.F.slot_list_getattribute.lookup;have f4:=PySem.F.slot_list_getattribute.bind (.ref a);have f5:=am_list_getattr_none;unfold getAttr? getAttrBy? getAttrBy;repeat (any_goals (first|assumption|exact hT _|((with_reducible show wpAny _ _ (call (Value.builtin "list.__getattribute__") _ _) _ _ _);refine call_meets PySem.F.slot_list_getattribute (hT _) am_entry_list_getattribute (PySem.F.args_list_getattribute_2 _ _) (meets_getattribute_miss_list a xs k sl "keys" _ wl (by decide) (by decide)) ⟨hx,hA,λh' Hm e hx'=>?_⟩)|wp_step))
 obtain⟨t',u',he⟩:=hx'.there;show wpAny _ _ (getattributeRaised _ _ _ _ _ _ _) _ _ _;unfold getattributeRaised;repeat (any_goals (first|assumption|wp_step))
 exact h _ _ hx'.of.keeps
end DL
namespace DL
open PySem PySem.Spec PyProof.Rows L2
def iT:List D->Option (List (cw×D))
 |[]=>some []
 |.tup [k,v]::r=>(ki k).bind λkk=>(iT r).map λl=>(kk,v)::l
 |_=>none
noncomputable def qg (a:List cw×List D)(p:cw×D):List cw×List D:=(dA a.1 p.1,dB a.1 a.2 p.1 p.2)
noncomputable def bT (l:List (cw×D)):List cw×List D:=l.foldl qg ([],[])
theorem qh (l:List (cw×D))(p:cw×D):bT (l++[p])=qg (bT l) p:=by unfold bT;rw[List.foldl_append];rfl
theorem qi:∀ {ds:List D}{l:List (cw×D)},iT ds=some l->l.length=ds.length
 |[],l,h=>by simp[iT]at h;subst h;rfl
 |d::r,l,h=>by
  unfold iT at h;split at h
  ·rename_i h0;cases h0
  ·rename_i k v r' h0;cases h0
   obtain⟨kk,_,h⟩:=oX h;obtain⟨l',h1,rfl⟩:=oY h;simp[qi h1]
  ·cases h
theorem qj:∀ {ds:List D}{l:List (cw×D)}{i:Nat}{d:D},iT ds=some l->ds[i]? = some d->∃k v kk,d=.tup [k,v]/\ki k=some kk/\l[i]? = some (kk,v)
 |[],l,i,d,_,h=>by simp at h
 |d0::r,l,i,d,h,hi=>by
  unfold iT at h;split at h
  ·rename_i h0;cases h0
  ·rename_i k v r' h0;cases h0
   obtain⟨kk,h2,h⟩:=oX h;obtain⟨l',h1,rfl⟩:=oY h;cases i with
   |zero=>simp at hi;subst hi;exact⟨k,v,kk,rfl,h2,rfl⟩
   |succ i=>simp only[List.getElem?_cons_succ]at hi ⊢;exact qj h1 hi
  ·cases h
theorem FF (l:List (cw×D)):∀a:List cw×List D,a.1.length=a.2.length->(l.foldl qg a).1.length=(l.foldl qg a).2.length/\(l.foldl qg a).1.length<=a.1.length+l.length:=by
 induction l with
 |nil=>intro a h;exact⟨h,vT _⟩
 |cons p l ih=>
  intro a h;have h1:(qg a p).1.length<=a.1.length+1:=by
   show(dA _ _).length<=_;unfold dA;split<;>simp
  have:=ih (qg a p) (mz h _ _);rw[List.foldl_cons,vE];exact⟨this.1,by omega⟩
theorem Ds (l:List (cw×D)):(bT l).1.length=(bT l).2.length/\(bT l).1.length<=l.length:=by
 have:=FF l ([],[]) rfl;exact⟨this.1,vR this.2 (by simp)⟩
theorem tM:entryFor table "dict.update.loop" = some Builtin.«dict.update.loop»:=entryFor_of_tree (by kernel_rfl)
theorem kH:plainId "dict.update.loop" = true:=by decide +kernel
section
variable {X:Cx}{ae:List (Addr×Obj)}{σ:St}{B H0:Hp}{A:Around}{R:Result->Shared->Prop}{it l d:Addr}{us:List V}{ds:List D}{gG:List (cw×D)}
theorem A2 (hA:A.handled=none)(nl:l≠it)(nd:d≠it)(hl:iA X.K B l us)(il:IsL X.K B us ds)(hp:iT ds=some gG)
  (hR:∀Hc N vs ob s',Inv X ae σ (upd Hc d (.dK ((bT gG).1.zip vs) ob)) s'->Hc d=none->Ext B N H0 Hc->(bT gG).1.length=vs.length->IsL X.K N vs (bT gG).2->R (.ok (.ret .none)) s'):
  ∀(k i:Nat)(tk:Nat)(s:Shared)(Hc N:Hp)(vs:List V)(ob:Obj),ds.length - i=k->i<=ds.length->Inv X ae σ (upd Hc d (.dK ((bT (gG.take i)).1.zip vs) ob)) s->Hc d=none->Ext B N H0 Hc->mR X ae (upd Hc d (.dK ((bT (gG.take i)).1.zip vs) ob)) it ->
   s.heap.IsListIter it l i->(bT (gG.take i)).1.length=vs.length->IsL X.K N vs (bT (gG.take i)).2 ->
   codeAny (model X.prog X.w) A (.builtin "dict.update.loop" ⟨[.ref d,.ref it,.int i tk,.none],[]⟩) R s:=by
 have n1:=il.length;have n2:=qi hp;intro k;induction k with
 |zero=>
  intro i tk s Hc N vs ob hk hi I hc xt fp st hz hv;have Ka:i=ds.length:=by omega
  have sm:aU B (upd Hc d (.dK ((bT (gG.take i)).1.zip vs) ob)):=(xt.bn.trans xt.nh).trans (qe hc);obtain⟨its,r1,p1,z1⟩:=I.list (sm.seq hl);have e1:=r1.length;refine codeAny_builtin tM ?_;rw[Around.under_plainId kH _];show wpAny _ A.in1 (pyNext (.ref it)>>=_) _ _ s;refine wX (wpAny_pyNext_list_end (A:=A.in1) hA st p1.isList (by simp;omega) λh' fJ=>?_);show wpAny _ _ (Builtin.Dict.addKeywords d []>>=_) _ _ _;refine wX (wY (wY ?_));have I1:=pb (t':=s.toks) (h':=h') (ch:=[it]) I (λb hb=>by rw[uT hb];exact fp) λb o hb e=>fJ b o (λq=>hb (by simp[q])) e;rw[Ka,←n2,List.take_length]at I1 hz hv;exact hR Hc N vs ob _ I1 hc xt hz hv
 |succ k ih=>
  intro i tk s Hc N vs ob hk hi I hc xt fp st hz hv;have fG:i<ds.length:=by omega
  have sm:aU B (upd Hc d (.dK ((bT (gG.take i)).1.zip vs) ob)):=(xt.bn.trans xt.nh).trans (qe hc);obtain⟨its,r1,p1,z1⟩:=I.list (sm.seq hl);obtain⟨kd,vd,kk,ed,ek,el⟩:=qj hp (vU fG);obtain⟨x,hx,ix⟩:=il.get (vU fG);rw[ed]at ix;cases ix with
  |@tup T xs _ hT hxs=>
   cases hxs with
   |cons ik r=>
    cases r with
    |cons iv r=>
     cases r
     rename_i xk xv;have Yy:=tL ik ek;subst Yy;obtain⟨u,hu,ru⟩:=r1.get hx;cases (show u=Value.ref T from ru)
     refine codeAny_builtin tM ?_;rw[Around.under_plainId kH _];show wpAny _ A.in1 (pyNext (.ref it)>>=_) _ _ s;refine wX (wpAny_pyNext_list_item (A:=A.in1) st p1.isList (x:=.ref T) (by simpa using hu) λh' lO hs=>?_);have I1:=pb (t':=s.toks) (h':=h') (ch:=[it]) I (λb hb=>by rw[uT hb];exact fp) λb o hb e=>hs.extBut b o (λq=>hb (by simp[q])) e;obtain⟨ps,r2,p2,z2⟩:=I1.tuple (be sm hT);obtain⟨uk,uv,rfl,rk,rv⟩:=r2.two;have Uw:Shared.TypeIs { s with heap:=h' } (.ref T) "tuple":=by obtain⟨o,e,c,_⟩:=p2;exact⟨o,e,c⟩
     dsimp only;refine wX (wpAny_holding (wX (wpAny_tryCatch ?_)));unfold Builtin.Dict.pairItems;refine wX (wpAny_typeOf Uw ?_);obtain⟨oT,eT,cT,nT,dT⟩:=p2;rw[if_pos (by decide)];refine wX (wpAny_seqItems eT dT (wY ?_));show wpAny _ _ (holding [uk,uv] (dictSet d uk uv)) _ _ _;obtain⟨zz,VW,Yz,wQ,dd⟩:=p9 I1.hok (a:=d) aE;have Y0:Yz.length<=sizeLine:=by rw[←wQ.length];exact zz
     have nk:((bT (gG.take i)).1.zip vs).length<sizeLine:=by
      have a1:=(Ds (gG.take i)).2;have a2:=z1;rw[List.length_take]at a1;rw[List.length_zip];omega
     refine wpAny_holding (wpAny_dictSet_pairs (hsz:=Y0) (xi rk) dd λh2 NA DM=>?_);have DV:(lR ((bT (gG.take i)).1.zip vs) kk xv).length<=sizeLine:=by have:=jU ((bT (gG.take i)).1.zip vs) kk xv;omega
     obtain⟨Wc,OE⟩:∃q,h2.get? d=some q:=let ⟨q,_,_,hq,_⟩:=NA;⟨q,hq⟩;have I2:=uJ (t':=s.toks+1) I1 (a:=d) (ob:=.dK (lR ((bT (gG.take i)).1.zip vs) kk xv) Wc) (by rw[aE];exact True.intro) DM ⟨_,OE⟩ (E3 DV VW (wQ.put kk rv) NA OE);rw[Hq,pq hz]at I2;have et:gG.take (i+1)=gG.take i++[(kk,vd)]:=by rw[List.take_add_one,el];rfl
     have Wd:(bT (gG.take (i+1))).1=dA (bT (gG.take i)).1 kk:=by rw[et,qh];rfl
     have Y1:(bT (gG.take (i+1))).2=dB (bT (gG.take i)).1 (bT (gG.take i)).2 kk vd:=by rw[et,qh];rfl
     refine wY ⟨plainId_quiet kH _,?_⟩;refine ih (i+1) 0 _ Hc N (dB (bT (gG.take i)).1 vs kk xv) Wc (by omega) fG (by rw[Wd];exact I2) hc xt ?_ ?_ ?_ ?_
     ·obtain⟨f0,f1⟩:=fp;refine⟨?_,f1⟩;rw[aH nd.symm]at f0 ⊢;exact f0
     ·exact lO.at λo e=>(DM.2 it nd.symm).trans e
     ·rw[Wd];exact mz hz _ _
     ·rw[Y1];exact hv.put (iv.mono xt.bn)
end
@[simp] def j7:List D->OB
 |[.lst ds]=>(iT ds).map λgG=>(.dk (bT gG).1 (bT gG).2,false)
 |_=>none
theorem MZ:bootBuiltins "dict" = some (.type "dict"):=by decide +kernel
section
variable {X:Cx}
theorem Na (Ux:X.calm=true):bQ X (.type "dict") (CO X.K j7):=by
 intro ae s σ H xs us Q I r h;obtain⟨B,Zz,d0,bb,sB,i0,ee,q⟩:=h;cases i0 with
 |nil=>simp[j7]at ee
 |cons i1 i2=>
  cases i2 with
  |cons _ _=>cases i1<;>simp[j7]at ee
  |nil=>
   cases i1<;>try (simp[j7]at ee;done)
   rename_i l ws ds hl il;simp only[j7]at ee;obtain⟨gG,hp,ee⟩:=oY ee;cases ee
   obtain⟨u,rfl,rx⟩:=gP r;cases rx
   have hA:X.A.handled=none:=I.ok.hd Ux;refine callType_codes (Q₁:=λobj s₁=>obj=.ref s.heap.objs.size/\s₁={ s with heap:=s.heap.push { cls:=.type "dict",data:=.dict #[] } }) PySem.F.kt_called_dict (PySem.F.kt_typeCall_dict_1 _) PySem.F.entry_dict_init (kt_code_dict_new _ ⟨rfl,rfl⟩) ?_;rintro obj s₁ ⟨rfl,rfl⟩;have I1:Inv X ae σ (upd H s.heap.objs.size (.dK [] { cls:=.type "dict",data:=.dict #[] })) { s with heap:=s.heap.push { cls:=.type "dict",data:=.dict #[] } }:=I.laid (t':=s.toks) (λb o e=>vZ _ e) (vT _) (xj s.heap I.big);have We:H s.heap.objs.size=none:=I.fresh;have hT:Shared.TypeIs { s with heap:=s.heap.push { cls:=.type "dict",data:=.dict #[] } } (.ref s.heap.objs.size) "dict":=⟨_,vY _ rfl,rfl⟩;refine⟨hT,PySem.F.args_dict_init_2 _ _,?_⟩;unfold Builtin.«dict.__init__»;refine wX ?_;unfold Builtin.Dict.selfAndRest;refine wX (wpAny_notOrdered_dict hT ?_);show wpAny _ _ (pure (s.heap.objs.size,[Value.ref l])) _ _ _;refine wY ?_;show wpAny _ _ (Builtin.Dict.updateFrom "dict.__init__" s.heap.objs.size (.ref l) [] .none) _ _ _;unfold Builtin.Dict.updateFrom;have sm:aU B (upd H s.heap.objs.size (.dK [] { cls:=.type "dict",data:=.dict #[] })):=sB.trans (qe We);obtain⟨its,r1,p1,z1⟩:=I1.list (sm.seq hl);have pl:=p1.isList;obtain⟨ol,nl,Sf,cl,Wf,dl⟩:=p1;have Y2:Shared.TypeIs { s with heap:=s.heap.push { cls:=.type "dict",data:=.dict #[] } } (.ref l) "list":=⟨ol,Sf,cl⟩;refine wX (wpAny_typeOf Y2 ?_);rw[if_pos (by decide)];obtain⟨oc,od,oo,os⟩:=ol;simp only at cl Wf dl;subst cl Wf dl;refine wX (Dr Sf (by exact hA) λh' tk hk=>?_);dsimp only[Option.isNone_none];rw[if_pos rfl];have I2:Inv X ae σ (upd H s.heap.objs.size (.dK [] { cls:=.type "dict",data:=.dict #[] })) { s with heap:=h',toks:=tk }:=I1.kept (t':=tk) hk;refine wX (wpAny_rule ?_);refine wX (wpAny_pyIter_list (items:=its.toArray) ⟨_,hk _ _ Sf,rfl,nl,rfl⟩ ?_);have I3:Inv X ae σ (upd H s.heap.objs.size (.dK [] { cls:=.type "dict",data:=.dict #[] })) { s with heap:=h'.push { cls:=.type "list_iterator",data:=.fields #[.ref l,.int 0 0] },toks:=tk }:=I2.kept (t':=tk) λb o e=>vZ _ e;have ld:s.heap.objs.size<h'.objs.size:=vX (hk _ _ (vY _ rfl));have ll:l<h'.objs.size:=vX (hk _ _ Sf);refine wY ⟨plainId_quiet kH _,A2 (A:=X.A.in1) (B:=B) (H0:=H) (l:=l) (d:=s.heap.objs.size) (it:=h'.objs.size) hA (vS ll) (vS ld) hl il hp (λHc N vs ob s' I' JG xt hz hv=>?_) _ 0 0 _ H B [] _ rfl (uN _) I3 We (Ext.refl sB) (I2.fpOk (vT _) (I2.hok.fresh (vT _))) ⟨_,vY _ rfl,rfl,rfl⟩ rfl .nil⟩;refine⟨rfl,.ref s.heap.objs.size,_,I',rfl,?_⟩;have x3:=xt.trans (Ext.laid (o:=.dK ((bT gG).1.zip vs) ob) xt.nh JG);exact q _ _ _ x3 (.dk aE hz (hv.mono (Ext.laid (o:=.dK ((bT gG).1.zip vs) ob) xt.nh JG).bn)) (by simp)
end
@[simp] noncomputable def Vf:FE:=λ_=>none
@[simp] noncomputable def Vg:FA:=λ_=>none
theorem O0 (h:n+40<cLine):n+1<cLine:=by omega
@[simp] noncomputable def Nb:D->D->OB
 |.lst ds,.int k=>if 0<=k/\ds.length*k.toNat<=1000/\k<=1000 then some (.lst (List.replicate k.toNat ds).flatten,true)else none
 |_,_=>none
@[simp] def Dt (fa fb:FE):FE:=λρ=>(fa ρ).bind λx=>if x.2=true then (fb ρ).bind λy=>Nb x.1 y.1 else none
theorem IsL.rep {K:Frag}{H:Hp}{vs:List V}{ds:List D}(h:IsL K H vs ds):∀k:Nat,IsL K H (List.replicate k vs).flatten (List.replicate k ds).flatten
 |0=>.nil
 |k+1=>by rw[List.replicate_succ,List.replicate_succ,List.flatten_cons,List.flatten_cons];exact h.append (IsL.rep h k)
section
variable {X:Cx}{a b:Expr}{pos:Pos}
theorem FH {fa fb:FE}(ha:JE X a fa)(hb:JE X b fb):JE X (.BinOp a .Mult b pos) (Dt fa fb):=by
 refine PE.to (Kh Mj ha hb) λσ H Q q=>?_;obtain⟨B,ρ,d,bb,sB,r,ee,q⟩:=q;obtain⟨x,ex,ee⟩:=oX ee;split at ee
 ·rename_i hx;obtain⟨⟨yd,yb⟩,ey,ee⟩:=oX ee;refine⟨B,ρ,x.1,x.2,sB,r,ex,λv H1 N1 x1 i1 fr=>⟨N1,ρ,yd,yb,x1.nh,r.mono x1.bn,ey,λu H2 N2 x2 i2 NM=>?_⟩⟩;obtain⟨a0,vs,ds,rfl,e1,h0,h1,il⟩:=fr hx;rw[e1]at ee;clear NM;cases i2<;>try (simp[Nb]at ee;done)
  rename_i k;simp only[Nb]at ee;split at ee
  ·rename_i hk;cases ee
   have hl:=il.length;refine⟨a0,k,vs,rfl,rfl,x2.nh _ _ (x2.bn _ _ h1),by omega,by omega,by rw[hl];exact vR hk.2.1 (by decide:(1000:Nat)<=sizeLine),λp hp=>?_⟩;have x3:=Ext.laid (o:=.lst (List.replicate k.toNat vs).flatten) x2.nh hp;have Wg:=((il.mono x2.bn).mono x3.bn).rep k.toNat;exact q _ _ _ ((x1.trans x2).trans x3) (.lst (iA.of aE) Wg) λ_=>⟨_,_,_,rfl,rfl,(x1.trans x2).hh.free hp,aE,Wg⟩
  ·cases ee
 ·cases ee
end
def iH:List D->Option (List cw)
 |[]=>some []
 |d::ds=>(ki d).bind λk=>(iH ds).map (k :: ·)
theorem A3 {K:Frag}{B:Hp}:∀ {vs:List V}{ds:List D}{ks:List cw},IsL K B vs ds->iH ds=some ks->vs=ks.map kV
 |_,_,ks,.nil,e=>by simp[iH]at e;subst e;rfl
 |_,_,ks,.cons i is,e=>by
  simp only[iH]at e;obtain⟨k,h1,e⟩:=oX e;obtain⟨r,h2,rfl⟩:=oY e;rw[tL i h1,A3 is h2];rfl
@[simp] def FI (fo:FE)(fa:FA):FE:=λρ=>(fo ρ).bind λx=>(fa ρ).bind λds=>match x.1 with
 |.dt kss vs=>if ds.length<=sizeLine then (iH ds).map λk=>((cB kss vs k).getD .non,false)else none
 |_=>none
section
variable {X:Cx}{o:Expr}{es:List Expr}{pos:Pos}
theorem FJ {dw cA DP:Pos}{x1:Nat}{fo:FE}{fa:FA}(hu:X.A.units+1<cLine)(ho:JE X o fo)(ha:JA X es fa)(m:M1 X o "get" dw (.Tuple es x1 DP) cA):JE X (.Call (.Attribute o "get" dw) [.Tuple es x1 DP] [] cA) (FI fo fa):=by
 refine PE.to (xl hu ho (zK ha) m) λσ H Q q=>?_;obtain⟨B,ρ,d,bb,sB,r,ee,q⟩:=q;obtain⟨x,ex,ee⟩:=oX ee;obtain⟨ds,ey,ee⟩:=oX ee;refine⟨B,ρ,x.1,x.2,sB,r,ex,λv H1 N1 x1 i1 ff=>?_⟩;obtain⟨xd,xb⟩:=x;cases i1 with
 |@dt a ks vs DQ h hl hs=>
  simp only at ee;split at ee
  ·rename_i hz;obtain⟨k,hk,ee⟩:=oY ee;cases ee
   refine⟨a,rfl,.inr ⟨_,.inl (x1.nh _ _ h)⟩,N1,ρ,ds,x1.nh,r.mono x1.bn,ey,λus H2 N2 x2 i2=>?_⟩;have hv:=A3 i2 hk;have Y3:us.length<=sizeLine:=by rw[i2.length];exact hz
   refine⟨Y3,λp hp=>?_⟩;have x3:=Ext.laid (o:=.tup us) x2.nh hp;have Y4:N2 a=some (.dT (ks.zip vs)):=x2.bn _ _ h;refine⟨jT (ks.zip vs) k,.inr ⟨_,k,p,.inl (x3.nh _ _ (x3.bn _ _ Y4)),rfl,by rw[aE,hv],rfl⟩,?_⟩;have DM:=(hs.mono x2.bn).mono x3.bn;rcases wj k hl DM with⟨v,d',e1,e2,i3⟩|⟨e1,e2⟩
   ·rw[e1];rw[e2]at q;exact(q.into ((x1.trans x2).trans x3)).one x3.nh i3
   ·rw[e1];rw[e2]at q;exact(q.into ((x1.trans x2).trans x3)).one x3.nh .non
  ·cases ee
 |_=>simp at ee
end
section
variable {K:Frag}{E:Ends}{σ:St}{H:Hp}
def tN (i:Nat)(fk:FA)(fv:FE):FS:=λρ=>match ρ[i]? with
 |some (some (.dt ks vs,true))=>(fv ρ).bind λv=>(fk ρ).bind λkd=>(iH kd).bind λkk=>if bu v.1=true/\ks.length<sizeLine/\kd.length<=sizeLine then some (.nx (ρ.set i (some (.dt (dA ks kk) (dB ks vs kk v.1),true))))else none
 |_=>none
theorem FK {i:Nat}{fk:FA}{fv:FE}(q:nV K (tN i fk fv) E σ H):Ba (Eo i) (Ps (Op K fk)) (tD K fv) E σ H:=by
 obtain⟨B0,H0,ρ,r,⟨N,s⟩,e,p⟩:=q;unfold tN at e;split at e
 ·rename_i ks ds ei;obtain⟨v,ev,e⟩:=oX e;obtain⟨kd,ek,e⟩:=oX e;obtain⟨kk,hk,e⟩:=oX e;split at e
  ·rename_i hx;cases e
   refine⟨N,ρ,v.1,v.2,s.ext.nh,s.rep,ev,λv1 H1 N1 x1 i1 _=>?_⟩;have s1:=s.grow x1;obtain⟨a,o,h1,h2,h3,h4⟩:=s1.ow i _ ei;refine⟨.ref a,h1,N1,ρ,kd,s1.ext.nh,s1.rep,ek,λus H2 N2 x2 i2=>?_⟩;have s2:=s1.grow x2;have hv:=A3 i2 hk;refine⟨by rw[i2.length];exact hx.2.2,λpp hp=>?_⟩;have x3:=Ext.laid (o:=.tup us) s2.ext.nh hp;have s3:=s2.grow x3;obtain⟨a',o',k1,k2,k3,k4⟩:=s3.ow i _ ei;rw[h1]at k1;cases k1
   cases k4 with
   |@dt ks vs ds hl h5=>
    refine⟨a,rfl,.inr ⟨_,kk,pp,s3.ext.nh _ _ k2,rfl,by rw[aE,hv],?_,?_⟩⟩
    ·rw[List.length_zip];omega
    ·rw[pq hl];exact p σ _ ⟨_,s3.writeB ei h1 (.dt (mz hl _ _) (h5.put (s3.flat ((i1.mono x2.bn).mono x3.bn) hx.1)))⟩
  ·cases e
 ·cases e
end
section
variable {X:Cx}{pos:Pos}{e:Expr}{es:List Expr}
theorem IU (hu:X.A.units+1<cLine)(hv:JE X e fv)(hk:JA X es fk)(hN:X.N[i]? = some y:=by rfl)(AR:En X.env.scope y:=by first|exact Or.inl rfl|exact Or.inr (Or.inl rfl)|exact Or.inr (Or.inr rfl))(hd:(y == ("__debug__" : Str))=false:=by decide)
  (jv:(y == ("__classdict__" : Str))=false:=by decide) (hs:swapsWith e (some (.Subscript (.Name y py) (.Tuple es x1 DP) pt)) pos.line X.env=pure false:=by rfl):JS X (.Assign [.Subscript (.Name y py) (.Tuple es x1 DP) pt] e pos) (tN i fk fv) :=
 PS.to (uK hu (lw hN AR hd jv) (zK hk) hv hs) λ_ _ _ q=>FK q
end
end DL
namespace DL
open PySem PySem.Spec PySem.W PyProof.Rows L2
section
variable {X:Cx}{a b c:Expr}{p pos:Pos}
noncomputable def Nc (lo c:Int)(n:Nat):List D:=(List.range n).map λ(k:Nat)=>.int (lo+(k:Int)*c)
@[simp] def RH (f g h:FE):FA:=λρ=>(f ρ).bind λx=>(g ρ).bind λy=>(h ρ).bind λz=>match x.1,y.1,z.1 with
 |.int i,.int j,.int c=>if(-1000<=i/\i<=1000/\-1000<=j/\j<=1000)/\(c=1∨c=2∨c=3)then some (Nc i c (Builtin.Range.rangeSize i j c).toNat)else none
 |_,_,_=>none
end
end DL
namespace L2
open PySem PySem.Spec PyProof.Rows
noncomputable def Te (a:Addr)(aI:List (cw×V))(ob:Obj):It:=⟨λi H=>H a=some (.dK aI ob)/\i<aI.length,λi H x H'=>H'=H/\∃k,aI[i]? = some (k,x),λi H=>H a=some (.dK aI ob)/\aI.length<=i⟩
theorem KV.get {aI:List (cw×V)}{vs:List (cw×Value)}(r:KV aI vs){i:Nat}{k:cw}{x:V}(h:aI[i]? = some (k,x)):∃u,vs[i]? = some (k,u)/\aX x u:=by
 unfold KV at r;induction r generalizing i with
 |nil=>simp at h
 |@cons p q ps qs hq t ih=>
  cases i with
  |zero=>
   cases (show p=(k,x)from vK h)
   obtain⟨q1,q2⟩:=q;exact⟨q2,by rw[show k=q1 from hq.1];rfl,hq.2⟩
  |succ i=>exact ih h
theorem Qk (h:(bZ P w).is k u=true):aX (kV k) u:=by
 cases k with
 |inl i=>exact Value.isInt_shape h
 |inr z=>exact Value.isStrOf_shape h
section
variable {P:Program}{w:World}{H:Hp}{h:Heap}{a:Addr}
theorem qk (ok:kR P w H h)(e:H a=some (.dK aI ob))(hd:ob.data=.dict es ep):∃vs,KV aI vs/\h.DictAt (bZ P w) a vs ep:=by
 obtain⟨_,_,vs,r,o,Ej,O7,h1,h2,h3,h4⟩:=p9 ok e;rw[zU ok e]at h1;cases h1
 rw[hd]at h3;cases h3
 exact⟨vs,r,ob,es,zU ok e,h2,hd,h4⟩
theorem wm (ok:kR P w H h)(e:H a=some (.dK aI ob)):∃es ep,ob.data=.dict es ep:=by
 obtain⟨_,_,vs,r,o,Ej,O7,h1,h2,h3,h4⟩:=p9 ok e;rw[zU ok e]at h1;cases h1
 exact⟨Ej,O7,h3⟩
end
theorem Du {P:Program}{w:World}{K:Frag}{tg:Expr}(a it:Addr)(aI:List (cw×V))(ob:Obj){es:Array DictEntry}{ep:Nat}(hd:ob.data=.dict es ep):Turn P w K tg (Te a aI ob) [it] it (λi h=>h.IsValIter it a i aI.length ep) where
 mem:=by simp
 obj:=λi h st b hb=>by
  have e:b=it:=by simpa using hb
  subst e;obtain⟨o,e,c,d⟩:=st;exact⟨o,e,λv z=>by rw[d]at z;cases z⟩
 keep:=λi h h' st k=>st.at λo e=>k it (by simp) o e
 item:=by
  intro X hP hw hK hc i ae s σ H E I hf st hg;subst hP hw hK;obtain⟨hH,fG⟩:=hg;obtain⟨vs,r,m⟩:=qk I.hok hH hd;obtain⟨f0,f1,f2,f3,f4,f5⟩:=hf it (by simp);have hl:vs.length=aI.length:=(Paired.length r).symm;obtain⟨u,hu,ru⟩:=r.get (k:=aI[i].1) (x:=aI[i].2) (vU fG);refine wpAny_pyNext_values_item (by rw[hl];exact st) m hu λh' lO sb=>?_;rw[hl]at lO;have I1:Inv X ae σ H { s with heap:=h' }:=I.turned (t':=s.toks) (λb o hb e=>(sb.2 b hb).trans e) f0 f1 f3 f4 f5;obtain⟨o,e,c,d⟩:=id lO;exact⟨u,rfl,sD (s:={ s with heap:=h' }) e c d (by decide) ⟨aI[i].2,H,I1,ru,⟨rfl,aI[i].1,vU fG⟩,lO,λb hb=>(hf b hb).1⟩⟩
 done:=by
  intro X hP hw hK hc i ae s σ H E I hf st hg;subst hP hw hK;obtain⟨hH,GS⟩:=hg;obtain⟨vs,r,m⟩:=qk I.hok hH hd;obtain⟨f0,f1,f2,f3,f4,f5⟩:=hf it (by simp);have hl:vs.length=aI.length:=(Paired.length r).symm;exact wpAny_pyNext_values_end (I.ok.hd hc) (by rw[hl];exact st) m (List.getElem?_eq_none (by omega)) λh' eb=>⟨rfl,I.turned (t':=s.toks) (λb o hb e=>eb b o hb e) f0 f1 f3 f4 f5⟩
 self:=λ_ _ _ _ _ st h=>wpAny_pyIter_valiter st h
section
variable {X:Cx}{tg:Expr}
def Ql (td:TE):TI:=λσ H R=>td σ H λx H1=>∃a aI ob,x=.ref a/\H1 a=some (.dK aI ob)/\R (Te a aI ob) H1
theorem IV {o:Expr}{td:TE}{dw cA:Pos}(ho:PE X o td)(iw:attributeBase o "values" X.env (eval o X.env)=eval o X.env:=by rfl)(iz:(dw.endLine == cA.line)=true:=by rfl):PI X tg (.Call (.Attribute o "values" dw) [] [] cA) (Ql td):=by
 intro ae s σ H R I h;refine wpAny_Call_method0_late iw iz (cx (ho ae s σ H _ I h) λv s1 ⟨x,H1,I1,r1,a,aI,ob,ex,hH,q⟩=>?_);subst ex;obtain⟨h1,h2⟩:=zS I1 r1 (T:="dict") (.inr (.inr (.inl ⟨rfl,.inl ⟨aI,ob,hH⟩⟩)));cases r1
 obtain⟨es,ep,hd⟩:=wm I1.hok hH;obtain⟨vs,r,m⟩:=qk I1.hok hH hd;have hl:vs.length=aI.length:=(Paired.length r).symm;refine⟨"dict","dict.values",PySem.F.plainAttrs_dict,PySem.F.slot_dict_values,PySem.F.type_dict_values,h1,h2,Calls.callWith_builtin rfl (PySem.evalArgs_none ?_)⟩;refine call_meetsIn PySem.F.slot_dict_values h1 PySem.F.entry_dict_values (PySem.F.args_dict_values_1 _) (meets_dict_values (bZ X.prog X.w) a (p9 I1.hok hH).2.1) ⟨⟨vs,m.dictOf⟩,?_⟩;have I2:Inv X ae σ H1 { s1 with heap:=s1.heap.push { cls:=.type "dict_values",data:=.fields #[.ref a] } }:=I1.kept (t':=s1.toks) λb o e=>vZ _ e;refine wpAny_pyIter_values (v:=s1.heap.objs.size) ⟨_,vY _ rfl,rfl,rfl⟩ (m.keep λb o e=>vZ _ e) ?_;rw[hl];refine⟨(s1.heap.push { cls:=.type "dict_values",data:=.fields #[.ref a] }).objs.size,[(s1.heap.push { cls:=.type "dict_values",data:=.fields #[.ref a] }).objs.size],_,_,H1,rfl,I2.kept (t':=s1.toks) λb o e=>vZ _ e,Du a _ aI ob hd,⟨_,vY _ rfl,rfl,rfl⟩,λb hb=>?_,q⟩;have e:b=(s1.heap.push { cls:=.type "dict_values",data:=.fields #[.ref a] }).objs.size:=by simpa using hb
 subst e;exact I2.fpOk (vT _) (I2.hok.fresh (vT _))
end
end L2
namespace DL
open PySem PySem.Spec PySem.W PyProof.Rows L2
noncomputable def kD:cw->D
 |.inl i=>.int i
 |.inr z=>.str z
theorem Qm {K:Frag}{B:Hp}(k:cw):Is K B (kV k) (kD k):=by
 cases k with
 |inl i=>exact .int i
 |inr z=>exact .str z
section
variable {K:Frag}{B:Hp}
theorem IW {a:Addr}{ks:List cw}{vs:List V}{ds:List D}{ob:Obj}(h:B a=some (.dK (ks.zip vs) ob))(hl:ks.length=vs.length)(hs:IsL K B vs ds):oH K (Te a (ks.zip vs) ob) B ds:=by
 intro i H s;have hz:(ks.zip vs).length=vs.length:=by rw[List.length_zip];omega
 refine⟨λd ed=>?_,λbF=>⟨s _ _ h,by rw[hz,hs.length];exact bF⟩⟩;obtain⟨v,ev,iv⟩:=hs.get ed;have fG:i<vs.length:=(vV ev).1;refine⟨⟨s _ _ h,by rw[hz];exact fG⟩,λy H3 hy=>?_⟩;obtain⟨rfl,k,e⟩:=hy;have:=(List.getElem?_zip_eq_some.mp e).2;rw[ev]at this;cases this
 exact⟨B,.refl s,iv⟩
end
section
variable {X:Cx}{e:Expr}{tg:Expr}
@[simp] noncomputable def ql (f:FE):FA:=λρ=>(f ρ).bind λx=>match x.1 with|.dk _ ds=>some ds|_=>none
@[simp] noncomputable def Tf (f:FE):FA:=λρ=>(f ρ).bind λx=>match x.1 with|.dk ks _=>some (ks.map kD)|_=>none
theorem BC (h:JE X e f)(iw:attributeBase e "values" X.env (eval e X.env)=eval e X.env:=by rfl)(iz:(dw.endLine == cA.line)=true:=by rfl):JI X tg (.Call (.Attribute e "values" dw) [] [] cA) (ql f):=by
 intro ae s σ H R I q;obtain⟨B,ρ,ds,sB,r,e',q⟩:=q;obtain⟨⟨xd,xb⟩,ex,es⟩:=oX e';cases xd<;>try (cases es;done)
 cases es
 refine IV h iw iz ae s σ H R I ⟨B,ρ,_,_,sB,r,ex,λv H1 N1 x1 i1 _=>?_⟩;cases i1 with
 |@dk a ks vs ds ob hd hl hs=>exact⟨a,_,ob,rfl,x1.nh _ _ hd,q _ H1 N1 x1 (IW hd hl hs)⟩
end
end DL
namespace DL
open PySem PySem.Spec PyProof.Rows L2
@[simp] abbrev du (i:Nat)(j:Int):FE:=f2 b7 (ai i) (fC (.int j))
theorem bd (F:Fn X.prog X.w X.K X.mg X.base k x f)(hr:eN j X.A)(ha:JA X (e::es) fa)(hj:k<=j:=by decide)(hg:Gl X x:=by rfl)(sx:(x == ("__debug__" : Str))=false:=by decide)(he:starEach (e::es) X.env=(false,eval e X.env)::starEach es X.env:=by rfl)(ls:(backTo pos (starEach es X.env)).any (·.1)=false:=by rfl):JE X (.Call (.Name x p) (e::es) [] pos) (fA f fa):=Bd F (hr.mono hj) ha hg sx he ls
theorem Qn (h1:∀y∈scope.names,y.2≠.cell:=by decide +kernel)(h2:scope.kind=.function:=by rfl)(h3:∀y∈scope.names,y.2=.local->scope.names.lookup y.1=some .local:=by decide +kernel)(OA:(scope.names.all λy=>!(y.2 == NameKind.free) || (X.env.cells.lookup y.1).isSome)=true:=by rfl):CompSc X scope (dF scope.names X.env.cells []):=Mt h1 h2 h3 OA
theorem Vh (h1:N'[j]? = some x)(h2:X.N[i]? = some x)(t:mP X N' scope (dF scope.names X.env.cells []) (j+1) r)(h3:X.env.kindOf x=some .cell∨X.env.kindOf x=some .free:=by exact Or.inl rfl)(h4:(relabel scope X.env).names.lookup x=some .cell∨(relabel scope X.env).names.lookup x=some .free:=by exact Or.inl rfl)(hf:(x,NameKind.free)∈scope.names:=by decide +kernel)(hc:(X.env.cells.lookup x).isSome=true:=by rfl):mP X N' scope (dF scope.names X.env.cells []) j (i::r):=.cons h1 h2 h3 h4 (oZ hf hc) t
end DL
namespace DL
open PySem PySem.Spec PySem.W PyProof.Rows L2
noncomputable def nu:At->D
 |.i n=>.int n
 |.s z=>.str z
section
variable {prog:Program}{w:World}{A:Around}{E:Value->Shared->Prop}{s:Shared}
theorem Qo (hx:zB x u)(hy:zB y v):SeqAt.EqAt A s u v (bA (nu x) (nu y)):=by
 cases x with
 |i a=>
  obtain⟨t,rfl⟩:=hx;cases y with
  |i c=>obtain⟨t',rfl⟩:=hy;simp only[nu,bA];exact SeqAt.EqAt.int_int _ _ _ _
  |s c=>obtain⟨t',rfl⟩:=hy;simp only[nu,bA];exact SeqAt.EqAt.int_str _ _ _ _
 |s a=>
  obtain⟨t,rfl⟩:=hx;cases y with
  |i c=>obtain⟨t',rfl⟩:=hy;simp only[nu,bA];exact SeqAt.EqAt.str_int _ _ _ _
  |s c=>obtain⟨t',rfl⟩:=hy;simp only[nu,bA];exact SeqAt.EqAt.str_str _ _ _ _
theorem BD:∀ {xs ys:List At}{vs:List Value},Paired zB xs vs->Paired zB ys vs->xs=ys
 |_,_,_,.nil,.nil=>rfl
 |x::xs,y::ys,_,.cons p ps,.cons q qs=>by
  rw[BD ps qs];congr 1;cases x with
  |i a=>
   obtain⟨t,rfl⟩:=p;cases y with
   |i c=>obtain⟨t',e⟩:=q;cases e;rfl
   |s c=>obtain⟨t',e⟩:=q;cases e
  |s a=>
   obtain⟨t,rfl⟩:=p;cases y with
   |i c=>obtain⟨t',e⟩:=q;cases e
   |s c=>obtain⟨t',e⟩:=q;cases e;rfl
theorem Nd (x y:At):bA (nu x) (nu y)=true↔x=y:=by
 cases x<;>cases y<;>simp[nu]
theorem pv:∀xs ys:List At,cZ (xs.map nu) (ys.map nu)=true↔xs=ys
 |[],[]=>by simp[cZ]
 |[],_::_=>by simp[cZ]
 |_::_,[]=>by simp[cZ]
 |x::xs,y::ys=>by
  rw[uY,uY,cZ,vC,Nd,pv xs ys];simp
theorem Nf (hx:gZ s.heap xs x)(hy:gZ s.heap ys y)(hu:A.units<cLine):SeqAt.EqAt A s x y (cZ (xs.map nu) (ys.map nu)):=by
 obtain⟨a,o,its,n,rfl,ho,hc,hd,r⟩:=hx;obtain⟨b,o',gu,m,rfl,oR,JG,AN,r'⟩:=hy;by_cases hab:a=b
 ·subst hab;rw[ho]at oR;cases oR;rw[hd]at AN;cases AN;rw[BD r r',(pv ys ys).mpr rfl];exact SeqAt.EqAt.same _
 ·have t1:s.heap.IsTuple a its:=⟨o,ho,hc,n,hd⟩;have t2:s.heap.IsTuple b gu:=⟨o',oR,JG,m,AN⟩;have l1:xs.length=its.size:=by rw[←vG];exact fO r
  have l2:ys.length=gu.size:=by rw[←vG];exact fO r'
  have he:∀j (h1:j<its.size) (h2:j<gu.size),SeqAt.EqAt A.in1 s its[j] gu[j] (bA ((xs.map nu).getD j .non) ((ys.map nu).getD j .non)):=λj h1 h2=>by
   have p:=eV (.i 0) Value.none r (i:=j) (by omega);have q:=eV (.i 0) Value.none r' (i:=j) (by omega);have e1:its.toList.getD j Value.none=its[j]:=by rw[vF,Array.getElem?_toList,Array.getElem?_eq_getElem h1];rfl
   have e2:gu.toList.getD j Value.none=gu[j]:=by rw[vF,Array.getElem?_toList,Array.getElem?_eq_getElem h2];rfl
   rw[e1]at p;rw[e2]at q;have e3:(xs.map nu).getD j .non=nu (xs.getD j (.i 0)):=by simp[vF,show j<xs.length by omega]
   have e4:(ys.map nu).getD j .non=nu (ys.getD j (.i 0)):=by simp[vF,show j<ys.length by omega]
   rw[e3,e4];exact Qo p q
  have rc:=SeqAt.RcAt.tuples t1 t2 hu he;have QJ:((List.range (min its.size gu.size)).all (λj=>bA ((xs.map nu).getD j .non) ((ys.map nu).getD j .non)) && its.size == gu.size)=cZ (xs.map nu) (ys.map nu):=by
   rw[←l1,←l2];by_cases hl:xs.length=ys.length
   ·rw[←hl,Nat.min_self,beq_self_eq_true,Bool.and_true];have:=jy (λj=>bA ((xs.map nu).getD j .non) ((ys.map nu).getD j .non)) (xs:=xs.map nu) (ys:=ys.map nu) (by simpa using hl) λj x y e1 e2=>vh j x y e1 e2;rwa [vI]at this
   ·rw[vg (by simpa using hl),beq_eq_false_iff_ne.mpr hl,Bool.and_false]
  rw[QJ]at rc;exact SeqAt.EqAt.of_refs hab rc
theorem Dv (xs:List At):ba xs xs=some false:=by
 induction xs with
 |nil=>rfl
 |cons x xs ih=>cases x<;>rw[ba,if_pos rfl,ih]
theorem FL (hx:gZ s.heap xs x)(hy:gZ s.heap ys y)(h:ba (.i n::xs) (.i m::ys)=some b)(hu:A.units<cLine)(q:Q b s)(hn:zB (.i n) u)(hm:zB (.i m) v):KatLex prog w A true false Q [(u,v),(x,y)] 0 s:=by
 obtain⟨t,rfl⟩:=hn;obtain⟨t',rfl⟩:=hm;refine kat_cons (wpAny_eqBool_int ?_);rw[ba]at h;by_cases e:n=m
 ·rw[if_pos e]at h;rw[show(n == m)=true by simp[e]];refine kat_yes (kat_cons (Nf hx hy hu _ _ _ _ ?_));by_cases e2:xs=ys
  ·rw[(pv xs ys).mpr e2];rw[e2,Dv]at h;cases h
   exact kat_yes (kat_nil q)
  ·rw[Bool.eq_false_iff.mpr λz=>e2 ((pv xs ys).mp z)];refine kat_no (kat_one _ _ ?_);show wpAny _ _ (richCompare .Lt x y) _ _ _;exact F3 (Q:=W.BoolBack Q) hx hy h hu (by first|exact q|exact⟨b,rfl,q⟩)
 ·rw[if_neg e]at h;cases h
  rw[show(n == m)=false by simp[e]];exact kat_no (oneLt_int q)
end
def Dw (h:Heap)(xs:List At)(v:Value):Prop:=∃n k a o its m u x,xs=.i n::k/\v=.ref a/\h.get? a=some o/\o.cls=.type "tuple"/\o.data=.seq its m/\its.toList=[u,x]/\zB (.i n) u/\gZ h k x
section
variable {prog:Program}{w:World}{A:Around}{E:Value->Shared->Prop}{s:Shared}
theorem IX (hx:Dw s.heap xs x)(hy:Dw s.heap ys y)(h:ba xs ys=some b)(hu:A.units<cLine)(q:Q b s):wpAny (model prog w) A (keyLt' (tuples' true) x y) Q E s:=by
 obtain⟨n,k,a,o,its,m,u,x',rfl,rfl,ho,_,hd,ei,an,tx⟩:=hx;obtain⟨n',k',a',o',its',m',u',y',rfl,rfl,oR,_,AN,Wh,Y5,ty⟩:=hy;refine kat_lt ho hd oR AN ?_;rw[ei,Wh];have hf:decide (its.size<its'.size)=false:=by
  rw[←vG,←vG,ei,Wh];rfl
 rw[hf];exact FL tx ty h hu q an Y5
theorem oe:∀ {ks:List (List At)}{vs:List Value},Paired (Dw h) ks vs->∃fs,KatTups h vs fs/\fs.length=ks.length/\∀v∈fs,∃n,zB (.i n) v
 |_,_,.nil=>⟨[],trivial,rfl,by simp⟩
 |k::ks,_,.cons x t=>by
  obtain⟨fs,h1,h2,h3⟩:=oe t;obtain⟨n,k,a,o,its,m,u,x',rfl,rfl,ho,hc,hd,ei,an,_⟩:=x;refine⟨u::fs,KatTups.cons ho hc hd (by rw[←Array.getElem?_toList,ei];rfl) h1,by simp[h2],λv hv=>?_⟩;rcases vP hv with rfl|hv
  ·exact⟨n,an⟩
  ·exact h3 v hv
theorem Dx (hp:Paired (Dw s.heap) ks vs)(hn:0<ks.length)(q:Q (tuples' true) s):wpAny (model prog w) A (keyKind' vs.toArray) Q E s:=by
 obtain⟨fs,h1,h2,h3⟩:=oe hp;refine kat_kind (T:=.type "int") h1 (by omega) (λv hv=>?_) (by decide) q;obtain⟨n,t,rfl⟩:=h3 v hv;exact .now
theorem FM (hc:eD ks=true)(hu:A.units<cLine)(hp:Paired (Dw s.heap) ks vs):∀(i j:Nat)(C:Bool->Shared->Prop)(s1:Shared),i<ks.length->j<ks.length->s1=s->(∀s',s'=s->C (pU (Hi ks) i j) s')->kas_ask prog w A (tuples' true) vs i j C s1:=by
 intro i j C s1 hi hj e hC;subst e;unfold kas_ask;have mi:ks.getD i []∈ks:=by rw[vF,vU hi];exact List.getElem_mem hi
 have mj:ks.getD j []∈ks:=by rw[vF,vU hj];exact List.getElem_mem hj
 refine IX (eV [] Value.none hp hi) (eV [] Value.none hp hj) (gM hc mi mj) hu ?_;have:=hC s1 rfl;unfold pU Hi at this;rw[yj (uS ⟨_,mi,rfl⟩)]at this;exact this
end
def Ng:D->Option (List At)
 |.tup [.int n,.tup es]=>(eW es).map (.i n :: ·)
 |_=>none
def jh:List D->Option (List (List At))
 |[]=>some []
 |d::ds=>(Ng d).bind λa=>(jh ds).map (a :: ·)
theorem tO:∀ {ds:List D}{ks:List (List At)},jh ds=some ks->ks.length=ds.length
 |[],_,h=>by simp only[jh]at h;cases h;rfl
 |d::ds,_,h=>by
  simp only[jh]at h;obtain⟨a,h1,h⟩:=oX h;obtain⟨r,h2,h⟩:=oY h;subst h;simp[tO h2]
theorem yw (I:Inv X ae σ H s):∀ {ys:List V}{ds:List D}{ks:List (List At)}{its:List Value},aT ys its->IsL X.K H ys ds->jh ds=some ks->Paired (Dw s.heap) ks its
 |_,_,_,_,.nil,.nil,h=>by simp only[jh]at h;cases h;exact .nil
 |_,_,_,_,.cons r rr,.cons i ii,h=>by
  simp only[jh]at h;obtain⟨a,h1,h⟩:=oX h;obtain⟨t,h2,h⟩:=oY h;subst h;refine .cons ?_ (yw I rr ii h2);unfold Ng at h1;split at h1
  ·rename_i n es;obtain⟨k,Uy,rfl⟩:=oY h1;cases i with
   |tup hq hl=>
    cases r
    obtain⟨its',r',⟨o,ho,hc,m,hd⟩,_⟩:=I.tuple hq;cases hl with
    |cons i1 hl=>
     cases hl with
     |cons i2 hl=>
      cases hl
      cases r' with
      |cons r1 r'=>
       cases r' with
       |cons r2 r'=>
        cases r'
        cases i1
        have hk:dz [D.tup es]=some [k]:=by show(eW es).bind _=_;rw[Uy];rfl
        have ht:=ph I (.cons r2 .nil) (.cons i2 .nil) hk;cases ht with
        |cons ht _=>exact⟨n,k,_,o,_,m,_,_,rfl,rfl,ho,hc,hd,rfl,r1,ht⟩
  ·cases h1
theorem IY (hu:A.units<cLine):KK X A jh λ_=>true:=⟨tO,λI _ _ _ _ r i e _ hc=>have hp:=yw I r i e;⟨λhn _ _ q=>Dx hp hn q,FM hc hu hp⟩⟩
theorem FN (hu:X.A.units+40<cLine):KK X X.A.in1.in1 jh λ_=>true:=IY (show X.A.units+1+1<cLine by omega)
@[simp] abbrev A4:FE->(Env->D->Option D)->FE:=wg jh λ_=>true
end DL
namespace DL
open PySem PySem.Spec PyProof.Rows L2
def Qp:Nat->(List Value->Prop)->Prop
 |0,P=>P []
 |n+1,P=>∀a,Qp n λl=>P (a::l)
theorem Nh:∀n P,Qp n P->∀us:List Value,us.length=n->P us
 |0,_,h,[],_=>h
 |n+1,_,h,a::us,e=>Nh n _ (h a) us (Nat.succ.inj e)
section
variable {P:Program}{w:World}{K:Frag}{mg:Str->Option Value}{base:Heap}
def KC (K:Frag)(mg:Str->Option Value)(x:Str)(c:D):Prop:=∃u v,mg x=some u/\aX v u/\∀B,Is K B v c
def KD (w:World)(K:Frag)(mg:Str->Option Value)(x:Str)(c:List (Str×D)):Prop:=∃d,mg x=some (.ref d)/\sY K w.params d c
theorem kc_of {x:Str}{c:D}{h:Heap}(X:K.In h)(G:h.Ns mainGlobals mg)(k:∃u v,nsIn K mainGlobals x=some (some u)/\aX v u/\∀B,Is K B v c):KC K mg x c:=let ⟨u,v,e,r⟩:=k;⟨u,v,mg_of X G e,r⟩
theorem kd_of {x:Str}{c:List (Str×D)}{h:Heap}(X:K.In h)(G:h.Ns mainGlobals mg)(k:∃d,nsIn K mainGlobals x=some (some (.ref d))/\sY K w.params d c):KD w K mg x c:=let ⟨d,e,r⟩:=k;⟨d,mg_of X G e,r⟩
theorem eA.fqL {x:Str}{st:Stmt}{k:Nat}{F':List D->OB}(F:eA K x st)(B:∃h,K.In h/\h.Ns mainGlobals mg)(g:FS)(N:List Str)(n:Nat)
  (hb:∀ {f:Addr}{eI:Value}{A:Around}{outer:List PySem.Env}{s:Shared}{H:Hp}{E:XK},N.Nodup->eN k (A.deeper (envOfC x (aP st) s.heap.objs.size f eI))->(A.deeper (envOfC x (aP st) s.heap.objs.size f eI)).units+40<cLine->(∀c P,PySem.W.tabIn K x=some (c,P)->eI=.ref c)->wO (oF z7 P w K mg base N x (aP st) f eI A outer s H E).nox (cG st) g)
  (S:FnScope N (N.take n) (aP st):=by refine⟨rfl,rfl,rfl,?_,rfl,?_,?_⟩<;>decide +kernel)
  (JY:∀(kV doc pm:Value)(an:Option Addr)(eI ct:Value)(us:List Value),us.length=(N.take n).length->bindArgs (fnOf x x (fY st) (cG st) (aP st) .none kV doc pm an eI ct) ⟨us,[]⟩=pure ((N.take n).zip us):=by
   exact λ_ _ _ _ _ _=>Nh _ _ (by(repeat intro);rfl))
  (e:aN g (N.take n).length (N.length - (N.take n).length)=F':=by rfl):
  Fn P w K mg base (k+1) x F':=let ⟨_,X,G⟩:=B;e ▸ F.fnL X G S JY λ_ _ _ _ _ _ _ hc hr=>hb S.nd hr (CT hr) hc
theorem eA.fq {x:Str}{st:Stmt}{k:Nat}{F':List D->OB}(F:eA K x st)(B:∃h,K.In h/\h.Ns mainGlobals mg)(g:FS)(N:List Str)(n:Nat)
  (hb:∀ {f:Addr}{eI:Value}{A:Around}{outer:List PySem.Env}{s:Shared}{H:Hp}{E:XK},N.Nodup->eN k (A.deeper (envOfC x (aP st) s.heap.objs.size f eI))->(A.deeper (envOfC x (aP st) s.heap.objs.size f eI)).units+40<cLine->wO (oF z7 P w K mg base N x (aP st) f eI A outer s H E).nox (cG st) g)
  (S:FnScope N (N.take n) (aP st):=by refine⟨rfl,rfl,rfl,?_,rfl,?_,?_⟩<;>decide +kernel)
  (JY:∀(kV doc pm:Value)(an:Option Addr)(eI ct:Value)(us:List Value),us.length=(N.take n).length->bindArgs (fnOf x x (fY st) (cG st) (aP st) .none kV doc pm an eI ct) ⟨us,[]⟩=pure ((N.take n).zip us):=by
   exact λ_ _ _ _ _ _=>Nh _ _ (by(repeat intro);rfl))
  (e:aN g (N.take n).length (N.length - (N.take n).length)=F':=by rfl):
  Fn P w K mg base (k+1) x F':=F.fqL B g N n (λn r u _=>hb n r u) S JY e
end
section
variable {X:Cx}{x:Str}{pos:Pos}
theorem Eg (i:Nat)(hN:X.N.Nodup)(hi:X.N[i]? = some x:=by rfl)(hx:Ha X.env.scope x:=by first|exact Or.inl rfl|exact Or.inr rfl)(hf:X.fn x=true∨X.env.scope.names.lookup x=some .local:=by first|exact .inl rfl|exact .inr rfl):PG X (.Name x pos) (jF i):=AU hN hi hx hf
theorem O1 {fp}(i:Nat)(hN:N'.Nodup:=by decide +kernel)(hi:(iP X N' scope cl C s H fp).N[i]? = some x:=by rfl)(hx:Ha (iP X N' scope cl C s H fp).env.scope x:=by exact Or.inl rfl)(hf:(iP X N' scope cl C s H fp).fn x=true∨(iP X N' scope cl C s H fp).env.scope.names.lookup x=some .local:=by first|exact .inl rfl|exact .inr rfl):PG (iP X N' scope cl C s H fp) (.Name x pos) (jF i):=AU hN hi hx hf
theorem ji (N':List Str)(hi:JI X tg cV fi)(hc:∀ {C s H fp},JC (iP X N' scope (dF scope.names X.env.cells []) C s H fp) rT fc)(he:∀ {C s H fp},JE (iP X N' scope (dF scope.names X.env.cells []) C s H fp) sy fe)
  (GP:Kt X.K nT p5 g:=by first|exact xo (by decide)|exact KQ (by decide)) (hg:∀ {C s H fp},PG (iP X N' scope (dF scope.names X.env.cells []) C s H fp) tg g:=by intros;first|exact O1 0|exact u5 rfl (gd (O1 0) (gd (O1 1) oW)))
  (cp:mP X N' scope (dF scope.names X.env.cells []) nT cap:=by repeat first|exact .nil rfl|refine Vh rfl rfl ?_)
  (S:CompSc X scope (dF scope.names X.env.cells []):=by exact Qn) (jM:X.calm=true:=by rfl)
  (hs:∀x,foldedSetIterable cV X.env x=pure x:=by intro _;rfl):
  JE X (.ListComp sy [⟨tg,cV,rT,0⟩] scope pos) (bO fi nT cap p5 fc fe):=Ia jM S cp hi (λ_ _ _ _=>hg) GP (λ_ _ _ _=>hc) (λ_ _ _ _=>he) hs
theorem lh (N':List Str)(hN:X.N.Nodup)(hi:JI X tg cV fi)(hc:∀ {C s H fp},JC (iP X N' scope (dF scope.names X.env.cells []) C s H fp) rT fc)(he:∀ {C s H fp},JE (iP X N' scope (dF scope.names X.env.cells []) C s H fp) sy fe)
  (GP:Kt X.K nT p5 g:=by first|exact xo (by decide)|exact KQ (by decide)) (hg:∀ {C s H fp},PG (iP X N' scope (dF scope.names X.env.cells []) C s H fp) tg g:=by intros;first|exact O1 0|exact u5 rfl (gd (O1 0) (gd (O1 1) oW)))
  (cp:mP X N' scope (dF scope.names X.env.cells []) nT cap:=by repeat first|exact .nil rfl|refine Vh rfl rfl ?_)
  (Lr:X.N[i]? = some y:=by rfl) (hy:X.env.kindOf y=some .local:=by rfl)
  (QI:swapsWith (.ListComp sy [⟨tg,cV,rT,0⟩] scope pos) (some (.Name y py)) spos.line X.env=pure true:=by rfl)
  (S:CompSc X scope (dF scope.names X.env.cells []):=by exact Qn) (jM:X.calm=true:=by rfl)
  (hs:∀x,foldedSetIterable cV X.env x=pure x:=by intro _;rfl):
  JS X (.Assign [.Name y py] (.ListComp sy [⟨tg,cV,rT,0⟩] scope pos) spos) (aQ i (bO fi nT cap p5 fc fe)):=Ib jM hN Lr hy QI S cp hi (λ_ _ _ _=>hg) GP (λ_ _ _ _=>hc) (λ_ _ _ _=>he) hs
theorem tP (hi:JI X tg cV fi)(hg:PG X tg t)(ht:HX X.K p5 t)(hb:wO X body g)(hp:PassesOwn (model X.prog X.w) X.A X.env X.xe:=by exact PassesOwn.never)(hc:X.calm=true:=by rfl)
  (hs:∀x,foldedSetIterable cV X.env x=pure x:=by intro _;rfl):JS X (.For tg cV body [] pos) (pC fi p5 g):=Mz hp hc hi hg ht hb hs
theorem BE (hi:PI X tg cV (P8 X.K fi))(hg:PG X tg t)(ht:HX X.K p5 t)(hb:wO X body g)(hp:PassesOwn (model X.prog X.w) X.A X.env X.xe:=by exact PassesOwn.never)(hc:X.calm=true:=by rfl)
  (hs:∀x,foldedSetIterable cV X.env x=pure x:=by intro _;rfl):JS X (.For tg cV body [] pos) (lX fi p5 g):=Ij hp hc hi hg ht hb hs
end
end DL
namespace DL
open PySem PySem.Spec PySem.W PyProof.Rows L2
section
variable {X:Cx}
@[simp] def Zn:D->D->OB
 |.tup [.int n,.tup xs],.tup [.int m,.tup ys]=>(eW xs).bind λas=>(eW ys).bind λbs=>(ba (.i n::as) (.i m::bs)).map λr=>(.bl (!r),false)
 |_,_=>none
end
theorem qm:entryFor table "dict_itemiterator.__iter__" = some Builtin.«dict_keyiterator.__iter__»:=entryFor_alias (id':="dict_keyiterator.__iter__") (by kernel_rfl) rfl (by decide +kernel) (by kernel_rfl)
theorem wn (he:IsItemIter s.heap it d i n ep ok ov)(h:Q (.ref it) s):wpAny (model prog w) A (pyIter (.ref it)) Q E s:=by
 have hT:s.TypeIs (.ref it) "dict_itemiterator":=⟨_,he,rfl⟩;refine wpAny_pyIter_slot hT PySem.F.slot_dict_itemiterator_iter (wpAny_call_entry PySem.F.slot_dict_itemiterator_iter hT qm ?_ (PySem.F.args_dict_itemiterator_iter_1 _));show wpAny _ _ (ret (.ref it)) _ _ s;exact wY ⟨_,rfl,"dict_itemiterator",_,hT,PySem.F.slot_dict_itemiterator_next.lookup,h⟩
noncomputable def Tg (a:Addr)(aI:List (cw×V))(ob:Obj):It:=⟨λi H=>H a=some (.dK aI ob)/\i<aI.length,λi H y H'=>∃T k v,y=.ref T/\H T=none/\H'=upd H T (.tup [kV k,v])/\aI[i]? = some (k,v),λi H=>H a=some (.dK aI ob)/\aI.length<=i⟩
theorem A5 {P:Program}{w:World}{K:Frag}{es:List Expr}{kt:Nat}{pt:Pos}(a it:Addr)(aI:List (cw×V))(ob:Obj){ds:Array DictEntry}{ep:Nat}(hd:ob.data=.dict ds ep):Turn P w K (.Tuple es kt pt) (Tg a aI ob) [it] it (λi h=>∃ok ov,IsItemIter h it a i aI.length ep ok ov) where
 mem:=by simp
 obj:=λi h st b hb=>by
  have e:b=it:=by simpa using hb
  subst e;obtain⟨ok,ov,e⟩:=st;exact⟨_,e,λv z=>by cases z⟩
 keep:=λi h h' st k=>let ⟨ok,ov,e⟩:=st;⟨ok,ov,k it (by simp) _ e⟩
 item:=by
  intro X hP hw hK hc i ae s σ H E I hf st hg;subst hP hw hK;obtain⟨ok,ov,he⟩:=st;obtain⟨hH,fG⟩:=hg;obtain⟨vs,r,m⟩:=qk I.hok hH hd;have hl:vs.length=aI.length:=(Paired.length r).symm;obtain⟨u,hu,ru⟩:=r.get (k:=aI[i].1) (x:=aI[i].2) (vU fG);have fresh:H s.heap.objs.size=none:=I.hok.fresh (vT _);have RZ:it≠s.heap.objs.size:=vS (vX he);refine wpAny_pyNext_items_item (by rw[hl];exact he) m hu λkey h' DO ho hT hsz hk=>?_;rw[hl]at ho;refine⟨_,rfl,wpAny_letOwnedTupleGo_items (s:={ s with heap:=h' }) ho λh2 OE s2=>?_⟩;have OF:Heap.SameBut it h' h2:=s2;have kk:∀b o,b∉[it]->s.heap.get? b=some o->h2.get? b=some o:=λb o hb q=>OF.extBut _ _ (λz=>hb (by simp[z])) (hk b o (λz=>hb (by simp[z])) q);have new:ce X.prog X.w (upd H s.heap.objs.size (.tup [kV aI[i].1,aI[i].2])) h2 s.heap.objs.size (.tup [kV aI[i].1,aI[i].2]):=⟨by show 2<=sizeLine;decide,[key,u],.cons (Qk DO) (.cons ru .nil),⟨_,OF.extBut _ _ RZ.symm hT,rfl,_,rfl⟩⟩;refine⟨.ref s.heap.objs.size,upd H s.heap.objs.size (.tup [kV aI[i].1,aI[i].2]),KR (s:=s) (t':=s.toks) I hf kk (vT _) new,rfl,⟨_,aI[i].1,aI[i].2,rfl,fresh,rfl,vU fG⟩,⟨_,_,OE⟩,λb hb=>?_⟩;have nQ:b≠s.heap.objs.size:=by
   have e:b=it:=by simpa using hb
   rw[e];exact RZ
  rw[aH nQ];exact(hf b hb).1
 done:=by
  intro X hP hw hK hc i ae s σ H E I hf st hg;subst hP hw hK;obtain⟨ok,ov,he⟩:=st;obtain⟨hH,GS⟩:=hg;obtain⟨vs,r,m⟩:=qk I.hok hH hd;have hl:vs.length=aI.length:=(Paired.length r).symm;exact wpAny_pyNext_items_end (I.ok.hd hc) (by rw[hl];exact he) m (List.getElem?_eq_none (by omega)) λh' hk=>⟨rfl,pb (t':=s.toks) I hf λb o hb q=>hk b o (λz=>hb (by simp[z])) q⟩
 self:=λ_ _ _ _ _ st h=>let ⟨_,_,he⟩:=st;wn he h
section
variable {X:Cx}{es:List Expr}{kt:Nat}{pt:Pos}{e:Expr}
def Th (td:TE):TI:=λσ H R=>td σ H λx H1=>∃a aI ob,x=.ref a/\H1 a=some (.dK aI ob)/\R (Tg a aI ob) H1
theorem FP {o:Expr}{td:TE}{dw cA:Pos}(ho:PE X o td)(iw:attributeBase o "items" X.env (eval o X.env)=eval o X.env:=by rfl)(iz:(dw.endLine == cA.line)=true:=by rfl):PI X (.Tuple es kt pt) (.Call (.Attribute o "items" dw) [] [] cA) (Th td):=by
 intro ae s σ H R I h;refine wpAny_Call_method0_late iw iz (cx (ho ae s σ H _ I h) λv s1 ⟨x,H1,I1,r1,a,aI,ob,ex,hH,q⟩=>?_);subst ex;obtain⟨h1,h2⟩:=zS I1 r1 (T:="dict") (.inr (.inr (.inl ⟨rfl,.inl ⟨aI,ob,hH⟩⟩)));cases r1
 obtain⟨es,ep,hd⟩:=wm I1.hok hH;obtain⟨vs,r,m⟩:=qk I1.hok hH hd;have hl:vs.length=aI.length:=(Paired.length r).symm;refine⟨"dict","dict.items",PySem.F.plainAttrs_dict,PySem.F.slot_dict_items,PySem.F.type_dict_items,h1,h2,Calls.callWith_builtin rfl (PySem.evalArgs_none ?_)⟩;refine call_meetsIn PySem.F.slot_dict_items h1 PySem.F.entry_dict_items (PySem.F.args_dict_items_1 _) (meets_dict_items (bZ X.prog X.w) a (p9 I1.hok hH).2.1) ⟨⟨vs,m.dictOf⟩,?_⟩;have I2:Inv X ae σ H1 { s1 with heap:=s1.heap.push { cls:=.type "dict_items",data:=.fields #[.ref a] } }:=I1.kept (t':=s1.toks) λb o e=>vZ _ e;refine wpAny_pyIter_items (v:=s1.heap.objs.size) ⟨_,vY _ rfl,rfl,rfl⟩ (m.keep λb o e=>vZ _ e) ?_;rw[hl];refine⟨(s1.heap.push { cls:=.type "dict_items",data:=.fields #[.ref a] }).objs.size,[(s1.heap.push { cls:=.type "dict_items",data:=.fields #[.ref a] }).objs.size],_,_,H1,rfl,I2.kept (t':=s1.toks) λb o e=>vZ _ e,A5 a _ aI ob hd,⟨_,_,vY _ rfl⟩,λb hb=>?_,q⟩;have e:b=(s1.heap.push { cls:=.type "dict_items",data:=.fields #[.ref a] }).objs.size:=by simpa using hb
 subst e;exact I2.fpOk (vT _) (I2.hok.fresh (vT _))
noncomputable def lD (ks:List cw)(ds:List D):List D:=(ks.zip ds).map λx=>.tup [kD x.1,x.2]
theorem FQ {K:Frag}{B:Hp}{a:Addr}{ks:List cw}{vs:List V}{ds:List D}{ob:Obj}(h:B a=some (.dK (ks.zip vs) ob))(hl:ks.length=vs.length)(hs:IsL K B vs ds):oH K (Tg a (ks.zip vs) ob) B (lD ks ds):=by
 intro i H s;have hz:(ks.zip vs).length=vs.length:=by rw[List.length_zip];omega
 have hn:=hs.length;refine⟨λd ed=>?_,λbF=>⟨s _ _ h,by unfold lD at bF;rw[vI,List.length_zip]at bF;omega⟩⟩;unfold lD at ed;rw[vA]at ed;obtain⟨⟨k0,d0⟩,ek,rfl⟩:=oY ed;obtain⟨e1,e2⟩:=List.getElem?_zip_eq_some.mp ek;obtain⟨v,ev,iv⟩:=hs.get e2;have fG:i<vs.length:=(vV ev).1;refine⟨⟨s _ _ h,by rw[hz];exact fG⟩,λy H3 hy=>?_⟩;obtain⟨T,k,v',rfl,hT,rfl,e⟩:=hy;obtain⟨g1,g2⟩:=List.getElem?_zip_eq_some.mp e;rw[e1]at g1;cases g1;rw[ev]at g2;cases g2;have xt:=Ext.laid (o:=.tup [kV k0,v']) s hT;exact⟨_,xt,.tup (iZ.of aE) (.cons (Qm _) (.cons (iv.mono xt.bn) .nil))⟩
@[simp] def BF (f:FE):FA:=λρ=>(f ρ).bind λx=>match x.1 with|.dk ks ds=>some (lD ks ds)|_=>none
theorem FR (h:JE X e f)(iw:attributeBase e "items" X.env (eval e X.env)=eval e X.env:=by rfl)(iz:(dw.endLine == cA.line)=true:=by rfl):JI X (.Tuple es kt pt) (.Call (.Attribute e "items" dw) [] [] cA) (BF f):=by
 intro ae s σ H R I q;obtain⟨B,ρ,ds,sB,r,e',q⟩:=q;obtain⟨⟨xd,xb⟩,ex,es⟩:=oX e';cases xd<;>try (cases es;done)
 cases es
 refine FP h iw iz ae s σ H R I ⟨B,ρ,_,_,sB,r,ex,λv H1 N1 x1 i1 _=>?_⟩;cases i1 with
 |@dk a ks vs ds ob hd hl hs=>exact⟨a,_,ob,rfl,x1.nh _ _ hd,q _ H1 N1 x1 (FQ hd hl hs)⟩
end
section
variable {K:Frag}{E:Ends}{σ:St}{H:Hp}
def qo (i:Nat)(fk fv:FE):FS:=λρ=>match ρ[i]? with
 |some (some (.dk ks vs,true))=>(fv (lW ρ)).bind λv=>(fk ρ).bind λk=>(ki k.1).bind λkk=>if ks.length<sizeLine then some (.nx (ρ.set i (some (.dk (dA ks kk) (dB ks vs kk v.1),true))))else none
 |_=>none
theorem Dy (q:nV K (qo i fk fv) E σ H):Ba (Eo i) (tD K fk) (tD K fv) E σ H:=by
 obtain⟨B0,H0,ρ,r,⟨N,s⟩,e,p⟩:=q;unfold qo at e;split at e
 ·rename_i ks ds ei;obtain⟨v,ev,e⟩:=oX e;obtain⟨k,ek,e⟩:=oX e;obtain⟨kk,hk,e⟩:=oX e;split at e
  ·rename_i hx;cases e
   refine⟨dY N (own σ ρ),lW ρ,v.1,v.2,bI.trans s.ext.nh,s.repH,ev,λv1 H1 N1 x1 i1 _=>?_⟩;obtain⟨s1,c⟩:=s.growH x1;obtain⟨a,o,h1,h2,h3,h4⟩:=s1.ow i _ ei;refine⟨.ref a,h1,_,ρ,k.1,k.2,s1.ext.nh,s1.rep,ek,λv2 H2 N2 x2 i2 _=>?_⟩;have s2:=s1.grow x2;have hv:=tL i2 hk;subst hv;obtain⟨a',o',k1,k2,k3,k4⟩:=s2.ow i _ ei;rw[h1]at k1;cases k1
   cases k4 with
   |@dk ks vs ds hl h5 ob=>
    refine⟨a,rfl,.inl ⟨_,kk,_,s2.ext.nh _ _ k2,rfl,?_,λTC=>?_⟩⟩
    ·rw[List.length_zip];omega
    ·rw[pq hl];exact p σ _ ⟨_,s2.writeB ei h1 (.dk (mz hl _ _) (h5.put ((i1.mono c).mono (eJ λa o e q=>⟨x2.bn a o e,q⟩))))⟩
  ·cases e
 ·cases e
end
section
variable {X:Cx}{pos:Pos}{e k:Expr}
theorem FU (hu:X.A.units+1<cLine)(hv:JE X e fv)(hk:JE X k fk)(hN:X.N[i]? = some y:=by rfl)(AR:En X.env.scope y:=by first|exact Or.inl rfl|exact Or.inr (Or.inl rfl)|exact Or.inr (Or.inr rfl))(hd:(y == ("__debug__" : Str))=false:=by decide)
  (jv:(y == ("__classdict__" : Str))=false:=by decide) (hs:swapsWith e (some (.Subscript (.Name y py) k pt)) pos.line X.env=pure false:=by rfl):JS X (.Assign [.Subscript (.Name y py) k pt] e pos) (qo i fk fv) :=
 PS.to (uK hu (lw hN AR hd jv) hk hv hs) λ_ _ _ q=>Dy q
end
section
variable {prog:Program}{w:World}{A:Around}{E:Value->Shared->Prop}{s:Shared}
theorem BG:∀(vs:List Value)(ns:List Int),vs.length=ns.length->(∀(i:Nat)(v:Value),vs[i]? = some v->∃(m:Int)(t:Tok),ns[i]? = some m/\v=Value.int m t)->IntsAre vs ns
 |[],[],_,_=>.nil
 |v::vs,n::ns,h,k=>by
  obtain⟨m,t,e,rfl⟩:=k 0 v rfl;cases (show some n=some m from e)
  exact .cons n t (BG vs ns (by simpa using h) λi v hv=>k (i+1) v hv)
theorem yx (hh:A.handled=none)(lo:(a == sysModules)=false)(hm:s.heap.DictAt (bZ prog w) a aI ep)(hk:aI.map (·.1)=ns.map .inl)(DY:ns.length<64)
  (hQ:∀(h1 h':Heap)(tk:Nat)(b:Addr)(out:Array Value)(n:Nat)(NZ:List Int),(∀c u,s.heap.get? c=some u->h1.get? c=some u)->(∀c u,h1.get? c=some u->h'.get? c=some u)->h1.objs.size<=b->h'.get? b=some (seqObj "list" out n) ->
   IntsAre out.toList NZ->NZ.Perm ns->NZ.Pairwise (·<=·)->Q (.ref b) { s with heap:=h',toks:=tk }):
  wpAny (model prog w) A (call (.builtin "sorted") [.ref a]) Q E s:=by
 refine Calls.call_function_entry kind_sorted plain_sorted entry_sorted (args_sorted1 _) ?_;unfold Builtin.«sorted»;refine wX (m:=checkCount "sorted" 1 1 _) (wY ?_);have VZ:aI.length=ns.length:=by have:=congrArg List.length hk;simpa using this
 refine wX (kdu_collect (A:=A.in1) (kdl_dict lo) (by exact hh) hm (by rw[sizeLine_eq];omega) λh1 tk kY hkeep GX=>?_);have Cy:kY.toList.length=ns.length:=by rw[vG,GX.1,VZ]
 have oU:IntsAre kY.toList ns:=BG kY.toList ns Cy λi v hv=>by
  obtain⟨k,x,e1,e2⟩:=GX.2 i v (by simpa using hv);have e3:(aI.map (·.1))[i]? = some k:=by rw[vA,e1];rfl
  rw[hk,vA]at e3;obtain⟨m,e4,rfl⟩:=oY e3;obtain⟨t,rfl⟩:=Value.isInt_shape (k:=m) (v:=v) e2;exact⟨m,t,e4,rfl⟩
 refine wX (wpAny_newList ?_ (by rw[Cy,sizeLine_eq];omega));have JF:(h1.push (seqObj "list" kY.toList.toArray 0)).get? h1.objs.size=some (seqObj "list" kY.toList.toArray 0):=vY _ rfl;show wpAny _ _ _ _ _ { s with heap:=h1.push (seqObj "list" kY.toList.toArray 0),toks:=tk };refine wX (wpAny_holding (wpAny_call_entry slot_list_sort ⟨_,JF,rfl⟩ entry_list_sort (list_sort_tree JF oU (by rw[Cy];exact DY) λout NZ a1 a2 a3=>⟨_,rfl,?_⟩) (args_list_sort _)));obtain⟨n,he⟩:=sortedHeap_at (out:=out) JF;refine wY ⟨_,rfl,hQ h1 _ _ _ out n NZ hkeep (λb u q=>?_) (vT _) he a1 a2 a3⟩;have hl:=vX q;rw[sortedHeap_old (vS hl) (by rw[size_push'];exact Nat.lt_succ_of_lt hl)];exact vZ _ q
end
noncomputable def tQ:List cw->Option (List Int)
 |[]=>some []
 |.inl n::ks=>(tQ ks).map (n :: ·)
 |.inr _::_=>none
theorem yy:∀ {ks:List cw}{ns:List Int},tQ ks=some ns->ks=ns.map .inl
 |[],_,h=>by cases h;rfl
 |.inl n::ks,_,h=>by
  obtain⟨r,h1,rfl⟩:=oY h;rw[yy h1];rfl
 |.inr _::_,_,h=>by cases h
theorem IZ {aI:List (cw×V)}{vs:List (cw×Value)}(r:KV aI vs):vs.map (·.1)=aI.map (·.1):=by
 unfold KV at r;induction r with
 |nil=>rfl
 |cons h t ih=>rw[uY,uY,ih,h.1]
@[simp] def jj:List D->OB
 |[.dk ks _]=>(tQ ks).bind λns=>if ns.length<64 then some (.lst ((gD ns).map .int),true)else none
 |_=>none
section
variable {X:Cx}
theorem Dz (hc:X.calm=true):bQ X (.builtin "sorted") (CO X.K jj):=by
 intro ae s σ H xs us Q I r h;obtain⟨B,dl,d,bb,sB,i,ee,q⟩:=h;cases i with
 |nil=>simp[jj]at ee
 |cons i1 i2=>
  cases i2 with
  |cons _ _=>cases i1<;>simp[jj]at ee
  |nil=>
   cases i1 with
   |@dk a ks vs ds ob hd hl hs=>
    obtain⟨u,rfl,rx⟩:=gP r;cases rx
    simp only[jj]at ee;obtain⟨ns,en,ee⟩:=oX ee;split at ee
    ·rename_i DY;cases ee
     have hH:=sB _ _ hd;obtain⟨es,ep,Y6⟩:=wm I.hok hH;obtain⟨RT,r',m⟩:=qk I.hok hH Y6;have Y7:RT.map (·.1)=ns.map .inl:=by rw[IZ r',List.map_fst_zip (by omega),yy en]
     refine yx (I.ok.hd hc) (p9 I.hok hH).2.1 m Y7 DY λh1 h' tk b out n NZ k1 k2 hb he oU i6 uw=>?_;have e:=yp i6 uw;subst e;have I1:Inv X ae σ H { s with heap:=h1,toks:=tk }:=t7 I k1 rfl rfl;have hf:H b=none:=I1.hok.fresh hb;have xt:=Ext.laid (o:=.lst ((gD ns).map V.int)) sB hf;exact⟨.ref b,_,I1.laid (t':=tk) k2 hb (show ce X.prog X.w _ h' _ (.lst ((gD ns).map V.int))from ⟨by rw[vI];unfold gD;rw[(bg _ ns).length_eq,sizeLine_eq];omega,out.toList,n,gL oU,he⟩),rfl,q _ _ _ xt (.lst (iA.of aE) (mr _)) λ_=>⟨_,_,_,rfl,rfl,hf,aE,mr _⟩⟩
    ·cases ee
   |_=>simp[jj]at ee
theorem Ni (hu:X.A.units+1<cLine)(hi:JE X i fi)(ho:JE X o fo)(hm:behindInMarks .In o=false:=by first|exact jQ _ (by decide) (by decide)|rfl):JE X (.Compare i [.In] [o] pos) (f2 RG fi fo):=by
 refine PE.to (LF (Ml hu hi ho) hm) λσ H Q q=>?_;obtain⟨B,ρ,d,bb,sB,r,ee,q⟩:=q;obtain⟨y,ey,ee⟩:=oX ee;obtain⟨x,ex,ee⟩:=oX ee;refine⟨B,ρ,y.1,y.2,sB,r,ey,λv2 H1 N1 x1 i2 _=>⟨N1,ρ,x.1,x.2,x1.nh,r.mono x1.bn,ex,λv H2 N2 x2 i1 ff=>?_⟩⟩;obtain⟨xd,xb⟩:=x;cases i1 with
 |@dk a ks vs ds ob h hl hs=>
  simp only[RG]at ee;obtain⟨k,hk,ee⟩:=oY ee;cases ee
  have hv:=tL i2 hk;subst hv;refine⟨a,jT (ks.zip vs) k,rfl,.inl ⟨_,k,_,.inl (x2.nh _ _ h),rfl,rfl⟩,?_⟩;rw[Dq hl hs];exact(q.into (x1.trans x2)).one x2.nh (.bl _)
 |_=>simp[RG]at ee
end
end DL
namespace DL
open PySem PySem.Spec PyProof.Rows L2
@[simp] abbrev fV (i:Nat)(g:FA):FA:=af (ai i) g
@[simp] abbrev fI (n:Int):FE:=fC (.int n)
@[simp] abbrev fS (s:PySem.Str):FE:=fC (.str s)
section
variable {X:Cx}{es:List Expr}{g:FA}{pos:Pos}
theorem aG {x:Str}{p:Pos}(i:Nat)(hr:JA X es g)(hN:X.N[i]? = some x:=by rfl)(hv:En X.env.scope x:=by first|exact Or.inl rfl|exact Or.inr (Or.inl rfl)|exact Or.inr (Or.inr rfl))(hd:(x == ("__debug__" : Str))=false:=by decide)(jv:(x == ("__classdict__" : Str))=false:=by decide)
  (hs:starEach (.Name x p::es) X.env=(false,eval (.Name x p) X.env)::starEach es X.env:=by rfl):JA X (.Name x p::es) (fV i g):=ah (ag i hN hv hd jv) hr hs
theorem bU {i:Int}{j:Nat}(hr:JA X es g):JA X (.Constant (.int i) j pos::es) (af (fC (.int i)) g):=ah av hr
theorem a9 (F:Fn X.prog X.w X.K X.mg X.base k x f)(hr:eN j X.A)(ha:JA X (e::es) g:=by repeat first|exact ao|refine aG _ ?_|refine ah aB ?_)(hj:k<=j:=by decide)(hg:Gl X x:=by rfl)(sx:(x == ("__debug__" : Str))=false:=by decide)(he:starEach (e::es) X.env=(false,eval e X.env)::starEach es X.env:=by rfl)(ls:(backTo pos (starEach es X.env)).any (·.1)=false:=by rfl):JE X (.Call (.Name x p) (e::es) [] pos) (fA f g):=Bd F (hr.mono hj) ha hg sx he ls
theorem bi (he:JE X e f):wO X [.Return (some e) pos] (aZ f):=bv (EM he)
theorem cy {c:Expr}{fc:FT}(hc:JT X c fc)(he:JE X e f):JS X (.If c [.Return (some e) p] [] pos) (eO fc (aZ f) bo):=fm hc (bv (EM he)) eU
theorem bC (i:Nat)(hN:X.N[i]? = some x:=by rfl)(hv:En X.env.scope x:=by first|exact Or.inl rfl|exact Or.inr (Or.inl rfl)|exact Or.inr (Or.inr rfl))(hd:(x == ("__debug__" : Str))=false:=by decide)(jv:(x == ("__classdict__" : Str))=false:=by decide):JE X (.Subscript (.Name x p) (.Constant (.int n) j q) pos) (du i n):=aM (ag i hN hv hd jv) av
end
end DL
namespace DL
open PySem PySem.Spec PySem.W PyProof.Rows L2
noncomputable def FV:Value->Int
 |.int n _=>n
 |_=>0
theorem WQ {prog:Program}{w:World}:zT (PySem.intKind prog w) FV .int:=⟨intKind_is prog w,λh=>Value.isInt_shape h,λ_ _=>rfl,λ_ _=>rfl⟩
theorem yz:∀(vs:List Value),(∀v∈vs,∃x t,v=.int x t)->IntsAre vs (vs.map FV)
 |[],_=>.nil
 |v::vs,h=>by
  obtain⟨x,t,rfl⟩:=h v mX;exact .cons x t (yz vs λu hu=>h u (mZ _ hu))
theorem WR {prog:Program}{w:World}:xW prog w FV .int λts=>aT ((gD ts).map V.int):=λh1 h2 h3 ho h=>
 list_sort_tree ho (yz _ h1) h3 λout NZ a1 a2 a3=>h out (by have e:=yp (a2.trans h2) a3;subst e;exact gL a1)
theorem IntsAre.at:∀ {vs:List Value}{ss:List Int},IntsAre vs ss->∀(i:Nat)(v:Value),vs[i]? = some v->∃x t,v=.int x t/\ss[i]? = some x
 |_,_,.nil,i,v,h=>by simp at h
 |_,_,.cons x t hr,0,v,h=>by simp at h;exact⟨x,t,h.symm,rfl⟩
 |_,_,.cons x t hr,i+1,v,h=>by
  simp only[List.getElem?_cons_succ]at h;exact IntsAre.at hr i v h
@[simp] def qp:D->OB:=ye mq gD .int
theorem y0 {X:Cx}{e:Expr}{pos pos2 p p2:Pos}(hc:X.calm=true)(m1:X.mg "sorted" = none)(m2:X.mg "set" = none)(he:JE X e f)(g1:Gl X "sorted":=by rfl)(g2:Gl X "set":=by rfl)
  (h1:starEach [e] X.env=(false,eval e X.env)::starEach [] X.env:=by rfl):JE X (.Call (.Name "sorted" p) [.Call (.Name "set" p2) [e] [] pos2] [] pos) (f1 qp f) :=
 yf WQ WR (λts=>(bg _ ts).length_eq) mr (λr' hl ez=>have h:=Bz r' hl ez;⟨IntsAre.length h,IntsAre.at h⟩) hc m1 m2 he g1 g2 h1
end DL
namespace DL
open PySem L2
theorem gk (I:Nat->Env->Prop)(ds:List D)(ρ0:Env)(h0:I 0 ρ0)
  (step:∀i d ρ,ds[i]? = some d->I i ρ->∃ρ1 ρ',tg d ρ=some ρ1/\(g ρ1=some (.nx ρ')∨g ρ1=some (.ct ρ'))/\I (i+1) ρ'):
  ∃ρ',iC tg g ds ρ0=some (.nx ρ')/\I ds.length ρ':=by
 have key:∀(es:List D)(i:Nat)(ρ:Env),ds.drop i=es->i+es.length=ds.length->I i ρ->∃ρ',iC tg g es ρ=some (.nx ρ')/\I ds.length ρ':=by
  intro es;induction es with
  |nil=>intro i ρ e hl h;refine⟨ρ,by rw[EF],?_⟩;rw[←hl];exact h
  |cons d es ih=>
   intro i ρ e hl h;have hd:ds[i]? = some d:=by
    have:(ds.drop i)[0]? = some d:=by rw[e];rfl
    rwa [List.getElem?_drop,Nat.add_zero]at this
   obtain⟨ρ1,ρ',h1,h2,h3⟩:=step i d ρ hd h;have he:ds.drop (i+1)=es:=by rw[←List.drop_drop,e];rfl
   obtain⟨ρ2,k1,k2⟩:=ih (i+1) ρ' he (by simp at hl;omega) h3;refine⟨ρ2,?_,k2⟩;rw[CP,h1];rcases h2 with h2|h2<;>simp only[vJ,h2]<;>exact k1
 exact key ds 0 ρ0 (by simp) (by simp) h0
theorem qq (n:Nat)(I:Nat->Env->Prop)(ρ0:Env)(h0:I 0 ρ0)
  (step:∀(i:Nat) ρ,i<n->I i ρ->∃ρ1 ρ',tg (.int (i:Int)) ρ=some ρ1/\(g ρ1=some (.nx ρ')∨g ρ1=some (.ct ρ'))/\I (i+1) ρ'):
  ∃ρ',iC tg g (eG 0 n) ρ0=some (.nx ρ')/\I n ρ':=by
 have hl:(eG 0 n).length=n:=by simp[eG]
 obtain⟨ρ',h1,h2⟩:=gk (tg:=tg) (g:=g) I (eG 0 n) ρ0 h0 λi d ρ hd h=>by
  unfold eG at hd;rw[vA]at hd;obtain⟨k,hk,hd⟩:=oY hd;obtain⟨fG,hk⟩:=vV hk;rw[List.length_range]at fG;rw[List.getElem_range]at hk;subst hk;rw[Int.zero_add]at hd;subst hd;exact step i ρ fG h
 rw[hl]at h2;exact⟨ρ',h1,h2⟩
theorem kj {α:Type}{xs:List α}{j:Nat}(h:j<xs.length):nU xs (j:Int)=some xs[j]:=HK (by simp[h])
theorem wo {α:Type}{xs:List α}{i:Int}(h0:0<=i)(h:i.toNat<xs.length):nU xs i=some xs[i.toNat]:=by
 have:=kj h;rwa [Int.toNat_of_nonneg h0]at this
@[simp] theorem oh (xs:List Int):bx (xs.map D.int)=true:=by
 induction xs with
 |nil=>simp
 |cons x xs ih=>simp[ih]
@[simp] theorem Hj (n:Nat)(xs:List Int):(xs.map D.int).all (aq n)=true:=by
 induction xs with
 |nil=>simp
 |cons x xs ih=>simpa using ih
@[simp] theorem Ja (xs:List Int):(xs.map D.int).all gf=true:=by
 induction xs with
 |nil=>simp
 |cons x xs ih=>simpa using ih
theorem D0 (n:Nat):eG 0 n=((List.range n).map λ(k:Nat)=>(k:Int)).map D.int:=by
 unfold eG;rw[uP];apply List.map_congr_left;intro k _;simp
mutual
def m4:D->D->Bool
 |.non,.non=>true
 |.bl a,.bl b=>a == b
 |.int a,.int b=>decide (a=b)
 |.str a,.str b=>decide (a=b)
 |.ty a,.ty b=>decide (a=b)
 |.tup xs,.tup ys=>qr xs ys
 |.lst xs,.lst ys=>qr xs ys
 |_,_=>false
def qr:List D->List D->Bool
 |[],[]=>true
 |x::xs,y::ys=>m4 x y && qr xs ys
 |_,_=>false
end
mutual
theorem BH:∀ {x y:D},m4 x y=true->x=y
 |.non,.non,_=>rfl
 |.bl a,.bl b,h=>by simp[m4]at h;rw[h]
 |.int a,.int b,h=>by simp[m4]at h;rw[h]
 |.str a,.str b,h=>by simp[m4]at h;rw[h]
 |.ty a,.ty b,h=>by simp[m4]at h;rw[h]
 |.tup xs,.tup ys,h=>by rw[m4]at h;rw[qt h]
 |.lst xs,.lst ys,h=>by rw[m4]at h;rw[qt h]
theorem qt:∀ {xs ys:List D},qr xs ys=true->xs=ys
 |[],[],_=>rfl
 |x::xs,y::ys,h=>by
  rw[qr,vC]at h;rw[BH h.1,qt h.2]
end
def RI (r:OB)(d:D)(b:Bool):Bool:=match r with
 |some (e,c)=>m4 e d && c == b
 |none=>false
theorem FW (h:RI r d b=true):r=some (d,b):=by
 unfold RI at h;split at h
 ·rw[vC]at h;rw[BH h.1,eq_of_beq h.2]
 ·cases h
section
variable {f:FE}{c:FT}{g g' h:FS}{ρ ρ':Env}{i:Nat}{d:D}{b:Bool}{r:Option Res}{ds:List D}
theorem aw (hl:ds.length=n)(e:g (ds.map (λd=>some (d,false))++List.replicate k none)=some (.rt d b)):aN g n k ds=some (d,b):=by
 unfold aN;rw[if_pos hl,e]
theorem tR (n:bu d=true):setE ρ i d b=ρ.set i (some (d,false)):=by unfold setE;rw[if_pos n]
theorem y4 (n:bx ds=true):setE ρ i (.lst ds) true=ρ.set i (some (.lst ds,true)):=by
 unfold setE;rw[if_neg (by simp),if_pos ⟨rfl,by simpa using n⟩]
theorem Jb (n:bu d=false)(m:b=false∨Bb d=false):setE ρ i d b=(unown ρ).set i (some (d,false)):=by
 unfold setE;have hz:¬(b=true/\Bb d=true):=λz=>by
  rcases m with m|m
  ·rw[m]at z;exact absurd z.1 (by decide)
  ·rw[m]at z;exact absurd z.2 (by decide)
 rw[if_neg (by simp[n]),if_neg hz]
theorem La (e:f ρ=some (d,b))(k:h (setE ρ i d b)=r):a8 (aQ i f) h ρ=r:=by simp[e];exact k
theorem Nj (e:f ρ=some (d,b))(n:bu d=true)(k:h (ρ.set i (some (d,false)))=r):a8 (aQ i f) h ρ=r:=La e (by rw[tR n];exact k)
theorem cf (e:f ρ=some (.lst ds,true))(n:bx ds=true)(k:h (ρ.set i (some (.lst ds,true)))=r):a8 (aQ i f) h ρ=r:=La e (by rw[y4 n];exact k)
theorem dC (e:g ρ=some (.nx ρ'))(k:h ρ'=r):a8 g h ρ=r:=by unfold a8;rw[e];exact k
theorem Ti (e:g ρ=some (.rt d b)):a8 g h ρ=some (.rt d b):=by unfold a8;rw[e]
theorem Tj (e:g ρ=some (.ct ρ')):a8 g h ρ=some (.ct ρ'):=by unfold a8;rw[e]
theorem kW (e:c ρ=some true)(k:g ρ=r):eO c g g' ρ=r:=by unfold eO;rw[e];exact k
theorem m5 (e:c ρ=some false)(k:g' ρ=r):eO c g g' ρ=r:=by unfold eO;rw[e];exact k
theorem Qq (e:c ρ=some x)(kt:x=true->g ρ=r)(kf:x=false->g' ρ=r):eO c g g' ρ=r:=by
 cases x with
 |true=>exact kW e (kt rfl)
 |false=>exact m5 e (kf rfl)
theorem bB (e:c ρ=some true)(k:g ρ=some (.rt d b)):a8 (eO c g g') h ρ=some (.rt d b):=Ti (kW e k)
theorem aA (e:c ρ=some false)(k:h ρ=r):a8 (eO c g bo) h ρ=r:=dC (m5 e rfl) k
theorem ay (e:f ρ=some (d,b)):aZ f ρ=some (.rt d b):=by simp[e]
theorem pw (e:ρ[i]? = some (some (d,b)))(hb:Ks d=false:=by rfl):jH i ρ=some (.rt d b):=by simp only[jH,e,hb];simp
theorem qu (e:f ρ=some (d,b))(n:bu d=true):aQ i f ρ=some (.nx (ρ.set i (some (d,false)))):=by
 show(f ρ).map _=_;rw[e,Option.map_some,tR n]
theorem px (e:f ρ=some (.lst ds,true))(n:bx ds=true):aQ i f ρ=some (.nx (ρ.set i (some (.lst ds,true)))):=by
 show(f ρ).map _=_;rw[e,Option.map_some,y4 n]
theorem j8 (e:ρ[i]? = some (some (.lst ds,true)))(ef:f ρ=some (d,b))(n:bu d=true)(l:ds.length<sizeLine):jV i f ρ=some (.nx (ρ.set i (some (.lst (ds++[d]),true)))):=by
 simp[e,ef,n,l]
theorem Lb (e:ρ[i]? = some (some (.lst ds,true)))(ef:f ρ=some (d,b))(n:bu d=true)(l:ds.length<sizeLine)(k:h (ρ.set i (some (.lst (ds++[d]),true)))=r):a8 (jV i f) h ρ=r:=dC (j8 e ef n l) k
theorem m6 (e:fi ρ=some ds)(k:iC tg g ds ρ=some (.nx ρ')):lX fi tg g ρ=some (.nx ρ'):=by unfold lX;rw[e];exact k
theorem kI (e:fi (lW ρ)=some ds)(k:iC tg g ds ρ=some (.nx ρ')):pC fi tg g ρ=some (.nx ρ'):=by unfold pC;rw[e];exact k
theorem kJ {f:FE}{j:Nat}(e:f ρ=some (.int j,b))(hj:j<=1000):gW f ρ=some (eG 0 j):=by
 unfold gW;rw[e];simp only[];rw[if_pos (by omega)];simp
theorem Nk (e:f ρ=some (.bl x,b)):bp f ρ=some x:=by unfold bp;rw[e]
theorem BI (e:fa ρ=some ds)(k:F ds=x):fA F fa ρ=x:=by unfold fA;rw[e,vJ];exact k
theorem qw {f1 g1:D->D->OB}{fa fb fc:FE}{x y z:D}{b1 b2 b3 b4 p q:Bool}(ea:fa ρ=some (x,b1))(eb:fb ρ=some (y,b2))(ec:fc ρ=some (z,b3))(e1:f1 x y=some (.bl p,b4))(e2:p=true->g1 y z=some (.bl q,false)):jx f1 g1 fa fb fc ρ=some (.bl (p && q),false):=by
 unfold jx;rw[ea,eb,ec];simp only[vJ,e1];cases p
 ·rfl
 ·exact e2 rfl
theorem dJ {f1 f2:FE}{p q b1:Bool}(e1:f1 ρ=some (.bl p,b1))(e2:p=true->f2 ρ=some (.bl q,false)):kU f1 f2 ρ=some (.bl (p && q),false):=by
 unfold kU;rw[e1];cases p
 ·rfl
 ·exact e2 rfl
theorem qx {f1 f2:FE}{p q b1:Bool}(e1:f1 ρ=some (.bl p,b1))(e2:p=false->f2 ρ=some (.bl q,false)):Mv f1 f2 ρ=some (.bl (p || q),false):=by
 unfold Mv;rw[e1];cases p
 ·exact e2 rfl
 ·rfl
theorem aF (e1:f ρ=some (d,b))(e2:fr ρ=some xs):af f fr ρ=some (d::xs):=by
 unfold af;rw[e1,vJ,e2,vJ]
theorem iD (e1:fa ρ=some (x,b1))(e2:fb ρ=some (y,b2))(e3:op x y=z):f2 op fa fb ρ=z:=by
 unfold f2;rw[e1,vJ,e2,vJ];exact e3
theorem dD (e1:c1 ρ=some p)(e2:p=true->c2 ρ=some q):dj c1 c2 ρ=some (p && q):=by
 unfold dj;rw[e1];cases p
 ·rfl
 ·exact e2 rfl
theorem de (e1:c1 ρ=some p)(e2:p=false->c2 ρ=some q):jN c1 c2 ρ=some (p || q):=by
 unfold jN;rw[e1];cases p
 ·exact e2 rfl
 ·rfl
theorem cu (e1:c1 ρ=some p):fj c1 ρ=some (!p):=by
 unfold fj;rw[e1];rfl
end
theorem RJ (a c:Nat):decide ([a]<[c])=decide (a<c):=by
 congr 1;rw[List.cons_lt_cons_iff];simp
@[simp] theorem RK (a c:Nat):sU (.str ⟨#[a]⟩) (.str ⟨#[c]⟩)=some (.bl (decide (a<=c)),false):=by
 unfold sU;show some (D.bl (!decide ([c]<[a])),false)=_;rw[RJ];congr 3;by_cases h:c<a
 ·rw[decide_eq_true h,decide_eq_false (by omega)];rfl
 ·rw[decide_eq_false h,decide_eq_true (by omega)];rfl
theorem bK (h:n<=100000):n<sizeLine:=Nat.lt_of_le_of_lt h (by decide)
theorem dm (h:n<=100000):n<=sizeLine:=Nat.le_of_lt (bK h)
theorem gE {α:Type}(l:List α)(g:α->D)(p:α->Bool)(h:α->D)(e:fi ρ=some (l.map g))(hl:l.length<=100000)
  (k:∀x∈l,∃ρ1,tg (g x) (dG nT cap ρ)=some ρ1/\c ρ1=some (p x)/\(p x=true->∃b,fe ρ1=some (h x,b))):bO fi nT cap tg c fe ρ=some (.lst ((l.filter p).map h),true):=by
 have key:∀l':List α,(∀x∈l',x∈l)->gA tg c fe (dG nT cap ρ) (l'.map g)=some ((l'.filter p).map h):=by
  intro l';induction l' with
  |nil=>intro _;simp
  |cons x l' ih=>
   intro hm;obtain⟨ρ1,h1,h2,h3⟩:=k x (hm x mX);have ih:=ih λy hy=>hm y (mZ _ hy);rw[uY,zX,h1,vJ,h2,vJ];cases hp:p x with
   |false=>simp[hp,ih]
   |true=>
    obtain⟨b,h4⟩:=h3 hp;simp[hp,ih,h4]
 unfold bO;rw[e,vJ,if_pos (dm (by simpa using hl)),key l λ_ h=>h,Option.map_some]
theorem oi {α:Type}(l:List α)(g:α->D)(h:α->D)(e:fi ρ=some (l.map g))(hl:l.length<=100000)
  (k:∀x∈l,∃ρ1,tg (g x) (dG nT cap ρ)=some ρ1/\∃b,fe ρ1=some (h x,b)):bO fi nT cap tg gQ fe ρ=some (.lst (l.map h),true):=by
 have:=gE (c:=gQ) (fe:=fe) l g (λ_=>true) h e hl λx hx=>by
  obtain⟨ρ1,h1,h2⟩:=k x hx;exact⟨ρ1,h1,rfl,λ_=>h2⟩
 rw[List.filter_eq_self.mpr λ_ _=>rfl]at this;exact this
@[simp] theorem qy {α:Type}(f:α->Bool)(l:List α):pH (l.map λx=>.bl (f x))=some (l.map f):=by
 induction l with
 |nil=>rfl
 |cons x l ih=>simp[ih]
theorem zP (h0:0<=i)(h:i.toNat<z.cps.size)(hz:z.length<=100000):b7 (.str z) (.int i)=some (.str ⟨#[z.cps.toList.getD i.toNat 0]⟩,false):=by
 have hh:i.toNat<z.cps.toList.length:=by simpa using h
 simp only[b7];rw[if_pos (dm hz),wo h0 hh];simp[List.getD,h]
theorem A6 (h0:0<=i)(h:i.toNat<ds.length):b7 (.lst ds) (.int i)=some (ds.getD i.toNat .non,false):=by
 simp only[b7];rw[wo h0 h];simp[List.getD,h]
theorem zO (h0:0<=i)(h:i.toNat<ds.length):b7 (.tup ds) (.int i)=some (ds.getD i.toNat .non,false):=by
 simp only[b7];rw[wo h0 h];simp[List.getD,h]
theorem wt {xs:List Int}{i:Int}(h0:0<=i)(h:i.toNat<xs.length):b7 (.lst (xs.map .int)) (.int i)=some (.int (xs.getD i.toNat 0),false):=by
 rw[A6 h0 (by simpa using h)];simp[List.getD,h]
theorem mod_lt {x m:Int}(hm:0<m):0<=x % m/\x % m<m:=⟨Int.emod_nonneg _ (by omega),Int.emod_lt_of_pos _ hm⟩
theorem Jc:gT [.lst ds]=some (.int ds.length,false):=rfl
theorem BJ:eB (.int i) (.int j)=some (.bl (decide (i=j)),false):=by simp
theorem bw (x y:D)(e1:fa ρ=some (x,false))(e2:fb ρ=some (y,false))(e3:op x y=z):f2 op fa fb ρ=z:=iD e1 e2 e3
theorem cY (e:f ρ=some (.bl x,false)):bp f ρ=some x:=Nk e
theorem cj (e1:f ρ=some (d,false))(e2:fr ρ=some xs):af f fr ρ=some (d::xs):=aF e1 e2
theorem aL (ds:List D)(e:fa ρ=some ds)(k:F ds=x):fA F fa ρ=x:=BI e k
theorem ga (d:D)(e:f ρ=some (d,false))(n:bu d=true)(k:h (ρ.set i (some (d,false)))=r):a8 (aQ i f) h ρ=r:=Nj e n k
@[simp] noncomputable abbrev Zo (ab:List D)(aa:Int)(t:Env):Env:=some (.tup ab,false)::some (.int aa,false)::t
@[simp] noncomputable abbrev eR (ns:List Int)(zs:List Str)(ms:Int)(cX:List Str)(R:List D)(a b:OB)(t:Env):Env:=some (.lst (ns.map .int),false)::some (.lst (zs.map .str),false)::some (.int ms,false)::a::some (.lst (cX.map .str),true)::some (.lst R,true)::b::t
end DL
namespace Lw
open PySem DL
noncomputable def y6:D:=(.tup [(.str "paper"),(.str "like"),(.str "copy")])
noncomputable def gI:List (PySem.Str×D):=[(("root" : Str),(.tup [(.str "office"),(.str "matters"),(.str "further"),(.str "rule")])),(("named" : Str),(.tup [(.str "day"),(.str "office"),(.str "person")])),(("chosen" : Str),(.tup [(.str "day"),(.str "by"),(.str "office"),(.str "person"),(.str "since")])),(("heir" : Str),(.tup [(.str "day"),(.str "by"),(.str "office"),(.str "person")])),(("death" : Str),(.tup [(.str "day"),(.str "person")])),(("lost" : Str),(.tup [(.str "day"),(.str "person")])),(("found" : Str),(.tup [(.str "day"),(.str "person")])),(("leave" : Str),(.tup [(.str "day"),(.str "by"),(.str "person"),(.str "matters"),(.str "stretch"),(.str "further")])),(("paper" : Str),(.tup [(.str "day"),(.str "by"),(.str "matters"),(.str "stretch"),(.str "whom"),(.str "pieces")])),(("like" : Str),(.tup [(.str "day"),(.str "by"),(.str "matters"),(.str "stretch"),(.str "whom"),(.str "of"),(.str "changes")])),(("copy" : Str),(.tup [(.str "day"),(.str "by"),(.str "of")])),(("call" : Str),(.tup [(.str "day"),(.str "by"),(.str "of")]))]
noncomputable def hV:D:=(.tup [(.str "chosen"),(.str "heir"),(.str "leave"),(.str "paper"),(.str "like"),(.str "copy"),(.str "call")])
def tS:FS :=
  (aZ (f2 b7 (du 0 1) (fI 0)))
def aJ:=aN tS 1 0
def tT:FS :=
  (aZ (f2 b7 (du 0 1) (f2 bS (fI 1) (f2 (oN gI) (fA aJ (fV 0 aj)) (ai 1)))))
def au:=aN tT 2 0
def y7:FS :=
  (a8 (eO (bp (f2 eB (fA aJ (fV 0 aj)) (fS "root"))) (aZ (fC .non)) bo)
  (aZ (fA au (fV 0 (af (fS "day") aj)))))
def aO:=aN y7 1 0
def BK:FS :=
  (aZ (bO (Fe (ai 0)) 2 [1] (Hh [0,1]) (bp (f2 sU (du 1 0) (ai 2))) (ai 0)))
def c9:=aN BK 2 0
def FX:FS :=
  (aZ (fA aY (af (fA aO (af (f2 b7 (ai 0) (ai 1)) aj)) (fV 1 aj))))
def eX:=aN FX 2 0
def qz:FS :=
  (a8 (aQ 2 (bO (cm (fA c9 (fV 0 (fV 1 aj)))) 1 [0] (dE 0) (bp (f2 lz (fA aO (af (f2 b7 (ai 1) (ai 0)) aj)) (fC .non))) (ai 0)))
  (aZ (pZ (ai 2) (pX [0] (fA eX (fV 1 (fV 0 aj)))))))
def dL:=aN qz 2 1
def oj:FS :=
  (aZ (fA aY (af (du 0 0) (af (du 0 2) (af (du 0 4) aj)))))
def gm:=aN oj 1 0
def BL:FS :=
  (a8 (aQ 2 (bO (cm (fA c9 (fV 0 (fV 1 aj)))) 1 [0] (dE 0) gQ (f2 b7 (ai 1) (ai 0))))
  (aZ (fA j7 (af (bO (cm (ai 2)) 1 [] (dE 0) (bp (f2 eB (fA aJ (fV 0 aj)) (fS "root"))) (fA aY (af (fA au (fV 0 (af (fS "office") aj))) (fV 0 aj)))) aj))))
def gb:=aN BL 2 1
def q8:FS :=
  (aZ (kU (jx sU MA (fI 0) (ai 2) (fA gT (fV 0 aj))) (f2 sU (f2 b7 (f2 b7 (ai 0) (ai 2)) (fI 0)) (ai 1))))
def cz:=aN q8 3 0
def BM:FS :=
  (aZ (kU (f2 z9 (fA aJ (fV 0 aj)) (ai 1)) (kU (f2 eB (fA au (fV 0 (af (fS "person") aj))) (ai 2)) (f2 sU (fA aO (fV 0 aj)) (ai 3)))))
def pz:=aN BM 4 0
def tU:FS :=
  (aZ (bO (cm (fA c9 (fV 0 (fV 1 aj)))) 1 [2,3,4,0] (dE 0) (bp (fA pz (af (f2 b7 (ai 4) (ai 0)) (fV 1 (fV 2 (fV 3 aj)))))) (ai 0)))
def gN:=aN tU 5 0
def BN:FS :=
  (aZ (f2 eB (fA gT (af (fA gN (fV 0 (fV 1 (af (fA aY (af (fS "death") aj)) (fV 2 (fV 3 aj)))))) aj)) (fI 0)))
def m7:=aN BN 4 0
def qA:FS :=
  (a8 (aQ 4 (fA gN (fV 0 (fV 1 (af (fA aY (af (fS "lost") (af (fS "found") aj))) (fV 2 (fV 3 aj)))))))
  (a8 (eO (bp (f2 eB (fA gT (fV 4 aj)) (fI 0))) (aZ (fC (.bl true))) bo)
  (aZ (f2 eB (fA aJ (af (f2 b7 (ai 0) (tI (ai 4) (pX [0] (fA eX (fV 1 (fV 0 aj)))))) aj)) (fS "found")))))
def lE:=aN qA 4 1
def qB:FS :=
  (a8 (eO (jN (fj (bp (fA cz (fV 0 (fV 1 (fV 2 aj)))))) (bp (f2 gV (fA aJ (af (f2 b7 (ai 0) (ai 2)) aj)) (fC hV)))) (aZ (fC (.bl false))) bo)
  (a8 (aQ 3 (fA au (af (f2 b7 (ai 0) (ai 2)) (af (fS "by") aj))))
  (a8 (aQ 4 (fA aO (af (f2 b7 (ai 0) (ai 2)) aj)))
  (aZ (kU (fA m7 (fV 0 (fV 1 (fV 3 (fV 4 aj))))) (fA lE (fV 0 (fV 1 (fV 3 (fV 4 aj))))))))))
def fP:=aN qB 3 2
def tV:FS :=
  (aZ (kU (f2 sU (du 1 0) (ai 0)) (Mv (f2 Ef (du 1 1) (fC .non)) (f2 MA (ai 0) (du 1 1)))))
def jk:=aN tV 2 0
def qC:FS :=
  (aZ (fA jk (fV 1 (af (fA aY (af (du 0 2) (af (du 0 3) aj))) aj))))
def cK:=aN qC 2 0
def qD:FS :=
  (aZ (fA aY (af (du 0 2) (af (du 0 4) aj))))
def df:=aN qD 1 0
def qE:FS :=
  (a8 (eO (bp (f2 eB (ai 1) (fS "last"))) (aZ (f2 b7 (tI (ai 0) (sq df)) (fI 1))) bo)
  (aZ (f2 b7 (tJ (ai 0) (sq df)) (fI 1))))
def lF:=aN qE 2 0
def om:FS :=
  (a8 (aQ 3 (bO (cm (ai 0)) 1 [2,1] (dE 0) (dj (bp (f2 eB (du 0 0) (fA au (fV 2 (af (fS "office") aj))))) (bp (fA cK (fV 0 (fV 1 aj))))) (ai 0)))
  (a8 (aQ 4 (f1 gY (bO (cm (ai 3)) 1 [] (dE 0) gQ (du 0 1))))
  (a8 (eO (bp (f2 eB (fA gT (fV 4 aj)) (fI 0))) (aZ (fA aY (af (fS "none") aj))) bo)
  (a8 (eO (dj (bp (f2 Hf (fA gT (fV 4 aj)) (fI 1))) (bp (f2 eB (fA au (fV 1 (af (fS "rule") aj))) (fS "open")))) (aZ (fA aY (af (fS "parted") (fV 4 aj)))) bo)
  (a8 (aQ 5 (fA lF (fV 3 (af (fA au (fV 1 (af (fS "rule") aj))) aj))))
  (a8 (aQ 6 (tJ (bO (cm (ai 3)) 1 [5] (dE 0) (bp (f2 eB (du 0 1) (ai 1))) (ai 0)) (sq df)))
  (aZ (fA aY (af (fS "one") (fV 5 (af (du 6 4) aj)))))))))))
def dM:=aN om 3 4
def m8:FS :=
  (aZ (f2 eB (RD (fA dM (fV 0 (fV 1 (fV 3 aj)))) EO (Bi (fI 2))) (fA aY (af (fS "one") (fV 2 aj)))))
def cH:=aN m8 4 0
def jl:FS :=
  (a8 (aQ 3 (f2 b7 (ai 0) (ai 2)))
  (a8 (aQ 4 (fA gN (fV 0 (fV 1 (af (fA aY (af (fS "death") aj)) (af (fA au (fV 3 (af (fS "person") aj))) (af (fA aO (fV 3 aj)) aj)))))))
  (aZ (f2 eB (tJ (ai 4) (pX [0] (fA eX (fV 1 (fV 0 aj))))) (ai 2)))))
def fQ:=aN jl 3 2
def y8:FS :=
  (a8 (aQ 4 (f2 b7 (ai 0) (ai 3)))
  (a8 (eO (bp (f2 eB (fA aJ (fV 4 aj)) (fS "death"))) (aZ (fA fQ (fV 0 (fV 1 (fV 3 aj))))) bo)
  (a8 (eO (bp (f2 gV (fA aJ (fV 4 aj)) (fA aY (af (fS "named") (af (fS "chosen") (af (fS "heir") aj)))))) (aZ (fC (.bl false))) bo)
  (a8 (aQ 5 (f2 F6 (fA gb (fV 0 (fV 1 aj))) (fA au (fV 4 (af (fS "office") aj)))))
  (a8 (eO (bp (f2 Ef (ai 5) (fC .non))) (aZ (fC (.bl false))) bo)
  (a8 (eO (bp (f2 eB (fA aJ (fV 4 aj)) (fS "named"))) (aZ (fC (.bl true))) bo)
  (aZ (kU (fA fP (fV 0 (fV 1 (fV 3 aj)))) (fA cH (fV 2 (fV 5 (af (fA au (fV 4 (af (fS "by") aj))) (af (fA aO (fV 4 aj)) aj)))))))))))))
def m9:=aN y8 4 2
def oq:FS :=
  (aZ (fA aY (af (fA au (fV 0 (af (fS "office") aj))) (af (fA au (fV 0 (af (fS "person") aj))) (fV 1 (af (fC .non) (fV 2 aj)))))))
def gn:=aN oq 3 0
def qF:FS :=
  (eO (jN (bp (f2 gV (du 5 0) (ai 1))) (jN (bp (f2 Af (du 5 1) (ai 2))) (fj (jN (bp (fA cK (fV 5 (fV 3 aj)))) (bp (f2 Hf (du 5 2) (ai 3))))))) (jV 4 (ai 5)) (eO (bp (f2 MA (du 5 2) (ai 3))) (jV 4 (fA aY (af (du 5 0) (fV 2 (af (du 5 2) (fV 3 (af (du 5 4) aj))))))) bo))
def BO:FS :=
  (a8 (aQ 4 (fA bD aj))
  (a8 (pC (cm (ai 0)) (dE 5) qF)
  (jH 4)))
def p0:=aN BO 4 2
def km:FS :=
  (a8 (aQ 3 (fA au (fV 1 (af (fS "since") aj))))
  (a8 (aQ 4 (fA p0 (fV 0 (af (fA bD (af (fA au (fV 1 (af (fS "office") aj))) aj)) (af (fA au (fV 1 (af (fS "by") aj))) (fV 3 aj))))))
  (aZ (f2 bS (ai 4) (fA bD (af (fA gn (fV 1 (fV 3 (fV 2 aj)))) aj))))))
def hW:=aN km 3 2
def gJ:FS :=
  (a8 (aQ 9 (FI (ai 3) (fV 8 (fV 5 aj))))
  (eO (dj (bp (f2 lz (ai 9) (fC .non))) (bp (fA m7 (fV 0 (fV 1 (fV 9 (fV 6 aj))))))) (jV 7 (fA aY (fV 8 (fV 9 (fV 6 (af (fC .non) (fV 4 aj))))))) bo))
def ot:FS :=
  (a8 (aQ 5 (fA au (af (f2 b7 (ai 0) (ai 4)) (af (fS "person") aj))))
  (a8 (aQ 6 (fA aO (af (f2 b7 (ai 0) (ai 4)) aj)))
  (a8 (aQ 7 (fA bD aj))
  (a8 (Qc [5,6] (pC (cm (f1 gY (bO (cm (ai 2)) 1 [5,6] (dE 0) (dj (bp (f2 eB (du 0 1) (ai 1))) (bp (fA cK (fV 0 (fV 2 aj))))) (du 0 0)))) (dE 8) gJ))
  (jH 7)))))
def kn:=aN ot 5 5
def lm:FS :=
  (a8 (aQ 5 (bO (cm (ai 2)) 1 [] (dE 0) gQ (du 0 0)))
  (a8 (aQ 6 (fA p0 (fV 2 (fV 5 (af (fA au (af (f2 b7 (ai 0) (ai 4)) (af (fS "person") aj))) (af (fA aO (af (f2 b7 (ai 0) (ai 4)) aj)) aj))))))
  (aZ (f2 bS (ai 6) (fA kn (fV 0 (fV 1 (fV 2 (fV 3 (fV 4 aj))))))))))
def iU:=aN lm 5 2
def kK:FS :=
  (a8 (aQ 5 (f2 b7 (ai 0) (ai 4)))
  (a8 (eO (fj (bp (fA m9 (fV 0 (fV 1 (fV 2 (fV 4 aj))))))) KU bo)
  (eO (bp (f2 eB (fA aJ (fV 5 aj)) (fS "named"))) (aQ 2 (f2 bS (ai 2) (fA bD (af (fA gn (fV 5 (af (fA aO (fV 5 aj)) (fV 4 aj)))) aj)))) (eO (bp (f2 eB (fA aJ (fV 5 aj)) (fS "chosen"))) (aQ 2 (fA hW (fV 2 (fV 5 (fV 4 aj))))) (eO (bp (f2 eB (fA aJ (fV 5 aj)) (fS "heir"))) (tN 3 (af (fA au (fV 5 (af (fS "office") aj))) (af (fA au (fV 5 (af (fS "by") aj))) aj)) (fA au (fV 5 (af (fS "person") aj)))) (aQ 2 (fA iU (fV 0 (fV 1 (fV 2 (fV 3 (fV 4 aj))))))))))))
def y9:FS :=
  (a8 (aQ 2 (fA bD aj))
  (a8 (F8 3)
  (a8 (pC (cm (fA dL (fV 0 (fV 1 aj)))) (dE 4) kK)
  (aZ (pZ (ai 2) (sq gm))))))
def qG:=aN y9 2 4
def qH:FS :=
  (aZ (kU (fA cz (fV 0 (fV 1 (fV 2 aj)))) (f2 z9 (fA aJ (af (f2 b7 (ai 0) (ai 2)) aj)) (fC y6))))
def eY:=aN qH 3 0
def qI:FS :=
  (aZ (kU (fA cz (fV 0 (fV 1 (fV 2 aj)))) (f2 eB (fA aJ (af (f2 b7 (ai 0) (ai 2)) aj)) (fS "leave"))))
def fR:=aN qI 3 0
def qJ:FS :=
  (aZ (Mv (fA fR (fV 0 (fV 1 (fV 2 aj)))) (fA eY (fV 0 (fV 1 (fV 2 aj))))))
def dO:=aN qJ 3 0
def qK:FS :=
  (aZ (f2 eB (f2 P9 (ai 0) (ai 1)) (ai 1)))
def hZ:=aN qK 2 0
def ou:FS :=
  (a8 (eO (fj (bp (fA hZ (af (fA au (fV 1 (af (fS "matters") aj))) (af (fA au (fV 0 (af (fS "matters") aj))) aj))))) (aZ (fS "matters")) bo)
  (a8 (eO (dj (bp (f2 eB (fA aJ (fV 0 aj)) (fS "leave"))) (bp (f2 SJ (fA au (fV 0 (af (fS "further") aj))) (fA au (fV 1 (af (fS "further") aj)))))) (aZ (fS "further")) bo)
  (aZ (fC .non))))
def iI:=aN ou 2 0
def mB:FS :=
  (a8 (eO (fj (bp (fA cH (fV 0 (fV 2 (af (fA au (fV 1 (af (fS "by") aj))) (af (fA aO (fV 1 aj)) aj))))))) (aZ (fS "holder")) bo)
  (aZ (fA iI (fV 1 (fV 2 aj)))))
def gK:=aN mB 3 0
def ko:FS :=
  (a8 (aQ 4 (f2 b7 (ai 0) (ai 3)))
  (a8 (aQ 5 (bO (ql (fA gb (fV 0 (fV 1 aj)))) 1 [2,4] (dE 0) (bp (f2 Ef (fA gK (fV 1 (fV 2 (fV 0 aj)))) (fC .non))) (ai 0)))
  (aZ (bO (cm (ai 5)) 1 [2,4] (dE 0) gQ (fA aY (af (fS "office") (af (fA au (fV 0 (af (fS "office") aj))) (af (f2 b7 (fA dM (fV 1 (fV 0 (af (fA aO (fV 2 aj)) aj)))) (fI 2)) aj))))))))
def ia:=aN ko 4 2
def ln:FS :=
  (a8 (eO (bp (f2 Ef (ai 1) (fC .non))) (aZ (fC (.bl true))) bo)
  (aZ (kU (f2 lz (ai 0) (fC .non)) (f2 sU (ai 0) (ai 1)))))
def iV:=aN ln 2 0
def oy:FS :=
  (aZ (kU (f2 sU (du 1 0) (du 0 0)) (fA iV (af (du 0 1) (af (du 1 1) aj)))))
def iJ:=aN oy 2 0
def qL:FS :=
  (aZ (f2 LD (fA eX (fV 0 (fV 1 aj))) (fA eX (fV 0 (fV 2 aj)))))
def fT:=aN qL 3 0
def oz:FS :=
  (a8 (aQ 3 (f2 b7 (ai 0) (ai 1)))
  (a8 (aQ 4 (fA au (af (f2 b7 (ai 0) (ai 2)) (af (fS "stretch") aj))))
  (a8 (eO (fj (bp (fA fT (fV 0 (fV 2 (fV 1 aj)))))) (aZ (fS "order")) bo)
  (a8 (eO (jN (fj (bp (fA jk (af (fA aO (fV 3 aj)) (fV 4 aj))))) (fj (bp (fA iJ (af (fA au (fV 3 (af (fS "stretch") aj))) (fV 4 aj)))))) (aZ (fS "days")) bo)
  (aZ (fA iI (fV 3 (af (f2 b7 (ai 0) (ai 2)) aj))))))))
def iK:=aN oz 3 2
def o0:FS :=
  (a8 (aQ 3 (bO (cm (fA c9 (fV 0 (fV 1 aj)))) 1 [0,1] (dE 0) (bp (fA fR (fV 1 (fV 2 (fV 0 aj))))) (ai 0)))
  (aZ (bO (cm (ai 3)) 1 [2,0] (dE 0) (bp (f2 eB (fA au (af (f2 b7 (ai 2) (ai 0)) (af (fS "person") aj))) (ai 1))) (ai 0))))
def kq:=aN o0 3 1
def lq:FS :=
  (a8 (aQ 3 (fA kq (fV 0 (fV 1 (af (fA au (af (f2 b7 (ai 0) (ai 2)) (af (fS "by") aj))) aj)))))
  (aZ (bO (cm (ai 3)) 1 [0,2] (dE 0) (bp (f2 Ef (fA iK (fV 1 (fV 2 (fV 0 aj)))) (fC .non))) (fA aY (af (fS "leave") (fV 0 aj))))))
def iW:=aN lq 3 1
def mC:FS :=
  (a8 (aQ 3 (fA au (af (f2 b7 (ai 0) (ai 2)) (af (fS "of") aj))))
  (a8 (eO (dj (bp (fA eY (fV 0 (fV 1 (fV 3 aj))))) (bp (fA fT (fV 0 (fV 3 (fV 2 aj)))))) (aZ (fA bD (af (fA aY (af (fS "copy") (fV 3 aj))) aj))) bo)
  (aZ (fA bD aj))))
def j9:=aN mC 3 1
def qM:FS :=
  (a8 (eO (fj (bp (fA dO (fV 0 (fV 1 (fV 3 aj)))))) (aZ (fA bD aj)) bo)
  (a8 (eO (bp (f2 eB (fA aJ (af (f2 b7 (ai 0) (ai 3)) aj)) (fS "copy"))) (aZ (fA j9 (fV 0 (fV 1 (fV 3 aj))))) bo)
  (a8 (aQ 4 (f2 bS (fA ia (fV 0 (fV 1 (fV 2 (fV 3 aj))))) (fA iW (fV 0 (fV 1 (fV 3 aj))))))
  (aZ (A4 (ai 4) (pX [] (fA aY (af (f2 b7 (ai 0) (f1 xJ (fI 1))) (fV 0 aj)))))))))
def eZ:=aN qM 4 1
def qN:FS :=
  (a8 (aQ 5 (f2 b7 (ai 0) (ai 4)))
  (a8 (aQ 6 (fA au (af (f2 b7 (ai 0) (ai 3)) (af (fS "by") aj))))
  (a8 (eO (bp (f2 eB (ai 6) (fA au (fV 5 (af (fS "by") aj))))) (aZ (fC (.bl true))) bo)
  (a8 (eO (bp (f2 eB (fA aJ (fV 5 aj)) (fS "copy"))) (aZ (fC (.bl false))) bo)
  (a8 (aQ 7 (bO (ql (fA gb (fV 0 (fV 1 aj)))) 1 [5] (dE 0) (bp (fA hZ (af (fA au (fV 0 (af (fS "matters") aj))) (af (fA au (fV 1 (af (fS "matters") aj))) aj)))) (ai 0)))
  (aZ (fA EW (af (bO (cm (ai 7)) 1 [2,6,0,3] (dE 0) gQ (fA cH (fV 1 (fV 0 (fV 2 (af (fA aO (af (f2 b7 (ai 3) (ai 4)) aj)) aj)))))) aj))))))))
def lG:=aN qN 5 3
def qO:FS :=
  (a8 (aQ 6 (f2 b7 (ai 0) (ai 3)))
  (a8 (eO (jN (bp (f2 Af (fA aJ (fV 6 aj)) (fS "call"))) (jN (bp (f2 Af (fA au (fV 6 (af (fS "of") aj))) (ai 4))) (bp (f2 Hf (fA aO (fV 6 aj)) (ai 5))))) (aZ (fC (.bl false))) bo)
  (aZ (kU (fA fP (fV 0 (fV 1 (fV 3 aj)))) (fA lG (fV 0 (fV 1 (fV 2 (fV 3 (fV 4 aj))))))))))
def jA:=aN qO 6 1
def qP:FS :=
  (a8 (eO (fj (bp (fA dO (fV 0 (fV 1 (fV 3 aj)))))) (aZ (fA bD aj)) bo)
  (aZ (bO (cm (fA c9 (fV 0 (fV 1 aj)))) 1 [0,1,2,3,4] (dE 0) (bp (fA jA (fV 1 (fV 2 (fV 3 (fV 0 (fV 4 (fV 5 aj)))))))) (ai 0))))
def lH:=aN qP 5 0
def yA:FS :=
  (a8 (eO (jN (fj (bp (fA fP (fV 0 (fV 1 (fV 3 aj)))))) (bp (f2 Hf (fA aO (af (f2 b7 (ai 0) (ai 3)) aj)) (ai 4)))) (aZ (fC (.bl false))) bo)
  (aZ (f2 eB (fA gT (af (fA lH (fV 0 (fV 1 (fV 2 (fV 3 (fV 4 aj)))))) aj)) (fI 0))))
def mD:=aN yA 5 0
def yB:FS :=
  (eO (dj (bp (fA dO (fV 0 (fV 1 (fV 5 aj))))) (bp (fA mD (fV 0 (fV 1 (fV 3 (fV 5 (fV 2 aj)))))))) (qo 4 (ai 5) (fA eZ (fV 0 (fV 1 (fV 3 (fV 5 aj)))))) bo)
def BP:FS :=
  (a8 (xm 3 (fA qG (fV 0 (fV 1 aj))))
  (a8 (BA 4)
  (a8 (pC (cm (fA dL (fV 0 (fV 1 aj)))) (dE 5) yB)
  (jH 4))))
def wu:=aN BP 3 3
def BQ:FS :=
  (aZ (Mv (f2 eB (du 0 0) (fS "office")) (f2 RG (du 0 1) (ai 1))))
def mE:=aN BQ 2 0
def yC:FS :=
  (eO (bp (fA EW (af (bO (cm (ai 3)) 1 [1] (dE 0) gQ (fA mE (fV 0 (fV 1 aj)))) aj))) (yv 1 (ai 2) (fC (.bl true))) bo)
def BR:FS :=
  (a8 (BA 1)
  (a8 (pC (BF (ai 0)) (Hh [2,3]) yC)
  (jH 1)))
def ww:=aN BR 1 3
def qQ:FS :=
  (aZ (fA jj (af (fA ww (af (fA wu (fV 0 (fV 1 (fV 2 aj)))) aj)) aj)))
def ib:=aN qQ 3 0
def yD:FS :=
  (a8 (aQ 2 (fI 5))
  (a8 (eO (bp (f2 Hf (fA gT (fV 0 aj)) (fI 0))) (aQ 2 (f2 b7 (ai 0) (f2 bG (ai 1) (fA gT (fV 0 aj))))) bo)
  (a8 (aQ 2 (f2 bG (f2 g7 (f2 bS (f2 bS (f2 bG (ai 2) (fI 2147483629)) (f2 g7 (fI 6151) (ai 1))) (fI 1)) (fI 48271)) (fI 2147483647)))
  (aZ (f2 bG (f2 g7 (ai 2) (f2 bS (f2 bS (f2 bG (ai 2) (fI 65519)) (ai 1)) (fI 2))) (fI 2147483629))))))
def dP:=aN yD 2 1
def lI:FS :=
  (a8 (aQ 6 (fA j3 (fV 2 aj)))
  (a8 (Dc 6 (ai 3) (f2 b7 (ai 1) (f2 bG (f2 bS (f2 cP (ai 0) (fI 64)) (f2 g7 (fI 3) (ai 5))) (fI 26))))
  (jV 4 (f2 nX (fS "") (ai 6)))))
def tW:FS :=
  (a8 (aQ 1 (fS "abcdefghijklmnopqrstuvwxyz"))
  (a8 (aQ 2 (bO (gW (f2 bS (fI 1) (f2 bG (ai 0) (fI 8)))) 1 [1,0] (dE 0) gQ (f2 b7 (ai 1) (f2 bG (f2 cP (ai 2) (f2 bS (fI 3) (f2 g7 (fI 4) (ai 0)))) (fI 26)))))
  (a8 (aQ 3 (f2 bG (f2 cP (ai 0) (fI 8)) (fA gT (fV 2 aj))))
  (a8 (aQ 4 (fA bD aj))
  (a8 (lX (gW (fI 7)) (dE 5) lI)
  (a8 (eO (bp (f2 eB (f2 bG (f2 cP (ai 0) (fI 1000)) (fI 8)) (fI 1))) (Dc 4 (fI 5) (du 4 0)) bo)
  (jH 4)))))))
def nv:=aN tW 1 6
def o3:FS :=
  (a8 (aQ 3 (fA bD (af (fA aY (af (fI 0) (af (fC .non) aj))) (af (fA aY (fV 1 (af (fC .non) aj))) (af (fA aY (fV 1 (af (f2 bS (ai 1) (f2 g7 (fI 3) (ai 2))) aj))) (af (fA aY (af (fI 0) (af (f2 bS (ai 1) (f2 g7 (fI 2) (ai 2))) aj))) (af (fA aY (af (fI 0) (af (f2 g7 (fI 9) (ai 2)) aj))) aj)))))))
  (a8 (aQ 3 (f2 bS (ai 3) (fA bD (af (fA aY (af (f2 bS (ai 1) (ai 2)) (af (f2 bS (ai 1) (f2 g7 (fI 4) (ai 2))) aj))) (af (fA aY (af (f2 cP (ai 1) (fI 2)) (af (f2 bS (ai 1) (f2 g7 (fI 6) (ai 2))) aj))) (af (fA aY (af (fI 0) (af (fC .non) aj))) aj))))))
  (aZ (f2 b7 (ai 3) (f2 bG (ai 0) (fI 8))))))
def gp:=aN o3 3 1
def yE:FS :=
  (a8 (aQ 7 (f2 bS (f2 bS (Dt (fA bD (af (fS "leave") aj)) (fI 5)) (Dt (fA bD (af (fS "paper") aj)) (fI 2))) (fA bD (af (fS "like") (af (fS "copy") (af (fS "copy") (af (fS "call") (af (fS "call") aj))))))))
  (a8 (aQ 7 (f2 bS (ai 7) (fA bD (af (fS "named") (af (fS "death") (af (fS "lost") (af (fS "found") (af (fS "chosen") (af (fS "heir") aj)))))))))
  (a8 (aQ 8 (f2 b7 (ai 7) (f2 bG (ai 1) (fI 18))))
  (a8 (aQ 9 (f2 b7 (ai 5) (f2 oJ (f1 xJ (fI 1)) (f2 bG (f2 cP (ai 1) (fI 18)) (fA Ir (af (fI 3) (af (fA gT (fV 5 aj)) aj)))))))
  (a8 (eO (bp (f2 eB (f2 bG (f2 cP (ai 1) (fI 54)) (fI 6)) (fI 1))) (aQ 9 (f2 b7 (ai 3) (f2 bG (f2 cP (ai 1) (fI 324)) (fI 5)))) bo)
  (a8 (aQ 10 (f2 b7 (ai 3) (f2 bG (f2 cP (ai 1) (fI 1620)) (fI 5))))
  (a8 (aQ 11 (fA Iq (af (fI 0) (af (f2 oJ (f2 oJ (ai 0) (fI 1)) (f2 bG (ai 2) (fI 4))) aj))))
  (a8 (eO (bp (f2 eB (f2 bG (f2 cP (ai 2) (fI 4)) (fI 8)) (fI 1))) (aQ 11 (f2 bG (f2 cP (ai 2) (fI 32)) (fI 60))) bo)
  (a8 (eO (bp (f2 eB (ai 8) (fS "leave"))) (a8 (aQ 12 (f2 b7 (fA bD (af (fI 3) (af (fI 1) (af (fI 7) (af (fI 2) (af (fI 255) (af (fI 5) (af (fI 1) (af (fI 3) aj))))))))) (f2 bG (f2 cP (ai 1) (fI 8100)) (fI 8))))
  (a8 (aQ 13 (f2 bG (f2 cP (ai 2) (fI 256)) (f2 b7 (fA bD (af (fI 5) (af (fI 5) (af (fI 5) (af (fI 10) aj))))) (f2 bG (f2 cP (ai 2) (fI 2560)) (fI 4)))))
  (aZ (fA aY (fV 8 (fV 4 (fV 9 (fV 10 (fV 12 (af (fA gp (af (f2 cP (ai 2) (fI 32)) (fV 4 (fV 6 aj)))) (fV 13 aj))))))))))) bo)
  (a8 (eO (jN (bp (f2 eB (ai 8) (fS "paper"))) (bp (f2 eB (ai 8) (fS "like")))) (a8 (aQ 12 (f2 b7 (fA bD (af (fI 1) (af (fI 1) (af (fI 3) (af (fI 2) (af (fI 4) (af (fI 5) (af (fI 128) (af (fI 7) aj))))))))) (f2 bG (f2 cP (ai 1) (fI 8100)) (fI 8))))
  (a8 (aQ 14 (fA aY (fV 8 (fV 4 (fV 9 (fV 12 (af (fA gp (af (f2 cP (ai 2) (fI 32)) (fV 4 (fV 6 aj)))) (af (f2 b7 (fA bD (af (fC .non) (fV 10 aj))) (f2 bG (f2 cP (ai 2) (fI 256)) (fI 2))) aj))))))))
  (a8 (eO (bp (f2 eB (ai 8) (fS "like"))) (aZ (f2 B7 (ai 14) (fA aY (fV 11 (af (fA aY (af (fA aY (af (fI 0) (fV 10 aj))) aj)) aj))))) bo)
  (aZ (f2 B7 (ai 14) (fA aY (af (fA aY (fV 10 aj)) aj))))))) bo)
  (a8 (eO (bp (f2 z9 (ai 8) (fA aY (af (fS "copy") (af (fS "call") aj))))) (aZ (fA aY (fV 8 (fV 4 (fV 9 (fV 11 aj)))))) bo)
  (a8 (eO (bp (f2 eB (ai 8) (fS "named"))) (aZ (fA aY (fV 8 (fV 4 (af (f2 b7 (ai 3) (f2 bS (fI 5) (f2 bG (ai 2) (fI 2)))) (fV 10 aj)))))) bo)
  (a8 (eO (bp (f2 eB (ai 8) (fS "chosen"))) (aZ (fA aY (fV 8 (fV 4 (fV 9 (af (f2 b7 (ai 3) (f2 bS (fI 5) (f2 bG (ai 2) (fI 2)))) (fV 10 (af (f2 bS (ai 4) (f2 g7 (f2 bG (f2 cP (ai 2) (fI 32)) (fI 3)) (ai 6))) aj)))))))) bo)
  (a8 (eO (bp (f2 eB (ai 8) (fS "heir"))) (aZ (fA aY (fV 8 (fV 4 (fV 9 (af (f2 b7 (ai 3) (f2 bS (fI 5) (f2 bG (ai 2) (fI 2)))) (fV 10 aj))))))) bo)
  (aZ (fA aY (fV 8 (fV 4 (fV 9 aj)))))))))))))))))))
def qR:=aN yE 7 8
def nw:FS :=
  (a8 (aQ 8 (f2 b7 (fA bD (af (fS "open") (af (fS "first") (af (fS "last") aj)))) (f2 bG (f2 cP (ai 4) (f2 bS (fI 64) (f2 g7 (fI 9) (ai 7)))) (fI 3))))
  (a8 (aQ 9 (f2 b7 (fA bD (af (fI 7) (af (fI 255) (af (fI 3) (af (fI 15) aj))))) (f2 bG (f2 cP (ai 4) (f2 bS (fI 2) (f2 g7 (fI 8) (ai 7)))) (fI 4))))
  (a8 (aQ 10 (f2 g7 (f2 g7 (fA Ak (af (f2 eB (f2 bG (f2 cP (ai 4) (f2 bS (fI 512) (ai 7))) (fI 8)) (fI 1)) aj)) (fI 4)) (ai 2)))
  (a8 (aQ 11 (f2 bG (f2 cP (ai 4) (f2 bS (fI 1024) (f2 g7 (fI 5) (ai 7)))) (f2 b7 (fA bD (af (fI 5) (af (fI 5) (af (fI 10) aj)))) (f2 bG (f2 cP (ai 4) (f2 bS (fI 31) (ai 7))) (fI 3)))))
  (a8 (jV 5 (fA aY (fV 10 (af (fA aY (af (fS "root") (af (f2 b7 (ai 1) (f2 bS (fI 5) (ai 7))) (fV 9 (fV 11 (fV 8 aj)))))) aj))))
  (a8 (jV 5 (fA aY (af (fI 0) (af (fA aY (af (fS "named") (af (fI 0) (af (f2 b7 (ai 1) (f2 bS (fI 5) (ai 7))) (af (f2 b7 (ai 1) (ai 7)) aj))))) aj))))
  (jV 6 (f2 b7 (ai 1) (ai 7)))))))))
def nz:FS :=
  (a8 (aQ 12 (fA dP (fV 0 (af (f2 bS (fI 5) (ai 7)) aj))))
  (a8 (aQ 13 (f2 g7 (f2 bS (f2 cP (ai 7) (fI 2)) (f2 bG (f2 cP (ai 12) (fI 7)) (fI 3))) (ai 2)))
  (a8 (aQ 14 (fA qR (af (fA gT (fV 5 aj)) (af (fA dP (fV 0 (af (f2 bS (fI 30) (ai 7)) aj))) (af (fA dP (fV 0 (af (f2 bS (fI 60) (ai 7)) aj))) (fV 1 (fV 13 (fV 6 (fV 2 aj)))))))))
  (a8 (eO (bp (f2 z9 (du 14 0) (fA aY (af (fS "leave") (af (fS "named") aj))))) (jV 6 (du 14 3)) bo)
  (a8 (eO (bp (f2 eB (du 14 0) (fS "chosen"))) (jV 6 (du 14 4)) bo)
  (jV 5 (fA aY (af (f2 bS (ai 13) (f2 g7 (f2 b7 (fA bD (af (fI 0) (af (fI 0) (af (fI 0) (af (fI 0) (af (fI 1) (af (fI 4) aj))))))) (f2 bG (f2 cP (ai 12) (fI 21)) (fI 6))) (ai 2))) (fV 14 aj)))))))))
def yF:FS :=
  (a8 (aQ 4 (fA dP (fV 0 (af (fI 1) aj))))
  (a8 (aQ 5 (fA bD aj))
  (a8 (aQ 6 (fA bD aj))
  (a8 (lX (gW (f2 bS (fI 1) (f2 bG (ai 4) (fI 2)))) (dE 7) nw)
  (a8 (lX (gW (f2 bS (fI 3) (f2 bG (fA dP (fV 0 (af (fI 2) aj))) (ai 3)))) (dE 7) nz)
  (aZ (fA gX (fV 5 aj))))))))
def qS:=aN yF 4 11
def A7:FS :=
  (eO (bp (f2 Af (du 7 0) (fS "root"))) (aQ 5 (f2 bS (ai 5) (fA bD (af (du 7 1) (af (f2 bS (du 7 1) (fI 1)) aj))))) bo)
def A8:FS :=
  (a8 (aQ 10 (fA ib (fV 3 (fV 4 (af (f2 b7 (ai 5) (ai 9)) aj)))))
  (a8 (aQ 11 (bO (cm (ai 10)) 1 [5,9,3] (dE 0) (bp (f2 sU (f2 b7 (f2 b7 (f2 b7 (ai 3) (ai 0)) (fI 1)) (fI 1)) (f2 b7 (ai 1) (f2 oJ (ai 2) (fI 1))))) (ai 0)))
  (a8 (eO (fj (bp (fA MF (af (bO (cm (ai 11)) 1 [8] (dE 0) gQ (f2 z9 (ai 0) (ai 1))) aj)))) (aZ (fC (.bl false))) bo)
  (a8 (aQ 12 (bO (cm (ai 3)) 1 [4,5,9] (dE 0) (dj (bp (f2 sU (du 0 0) (ai 1))) (dj (bp (f2 eB (f2 b7 (du 0 1) (fI 0)) (fS "call"))) (bp (jx MA sU (f2 b7 (ai 2) (f2 oJ (ai 3) (fI 1))) (f2 b7 (du 0 1) (fI 1)) (f2 b7 (ai 2) (ai 3)))))) (ai 0)))
  (a8 (eO (dj (bp (f2 eB (ai 12) (fA bD aj))) (bp (f2 Af (ai 11) (ai 8)))) (aZ (fC (.bl false))) bo)
  (aQ 8 (ai 10)))))))
def Lc:FS :=
  (a8 (aQ 1 (fA nv (af (fA dP (fV 0 (af (fI 0) aj))) aj)))
  (a8 (aQ 2 (f2 b7 (fA bD (af (fI 1) (af (fI 1) (af (fI 500) aj)))) (f2 bG (fA dP (fV 0 (af (fI 3) aj))) (fI 3))))
  (a8 (aQ 3 (fA qS (fV 0 (fV 1 (fV 2 (af (fI 18) aj))))))
  (a8 (aQ 4 (f2 b7 (fA bD (af (fI 9999) (af (f2 g7 (f2 bG (f2 cP (fA dP (fV 0 (af (fI 3) aj))) (fI 3)) (fI 13)) (ai 2)) aj))) (f2 cP (f2 bG (fA dP (fV 0 (af (fI 4) aj))) (fI 3)) (fI 2))))
  (a8 (aQ 5 (fA bD (af (fI 0) (af (fI 9999) aj))))
  (a8 (Qc [3] (pC (cm (ai 3)) (Hh [6,7]) A7))
  (a8 (aQ 5 (f1 qp (ai 5)))
  (a8 (aQ 8 (fA ib (fV 3 (fV 4 (af (du 5 0) aj)))))
  (a8 (lX (B6 (fI 1) (fA gT (fV 5 aj))) (dE 9) A8)
  (aZ (fC (.bl true))))))))))))
def F_law:=aN Lc 1 12
end Lw
namespace DL
open PySem L2
theorem jB:∀(n m:Nat)(d:D),n<=m->aq n d=true->aq m d=true
 |n,m,.non,_,_=>by simp
 |n,m,.bl _,_,_=>by simp
 |n,m,.int _,_,_=>by simp
 |n,m,.str _,_,_=>by simp
 |n,m,.ty _,_,h=>by cases n<;>simp[aq]at h
 |n,m,.dk _ _,_,h=>by simp at h
 |n,m,.dt _ _,_,h=>by simp at h
 |0,m,.tup _,_,h=>by simp[aq]at h
 |0,m,.lst _,_,h=>by simp[aq]at h
 |n+1,0,_,h,_=>by omega
 |n+1,m+1,.tup ds,hl,h=>by
  simp only[aq,List.all_eq_true]at h ⊢;exact λd hd=>jB n m d (by omega) (h d hd)
 |n+1,m+1,.lst ds,hl,h=>by
  simp only[aq,List.all_eq_true]at h ⊢;exact λd hd=>jB n m d (by omega) (h d hd)
theorem nA:∀(ds:List D),(∀d∈ds,bA d d=true)->cZ ds ds=true
 |[],_=>by simp only[cZ]
 |d::ds,h=>by
  simp only[cZ,h d mX,Bool.true_and];exact nA ds λe he=>h e (mZ _ he)
theorem qT:∀(n:Nat)(d:D),aq n d=true->bA d d=true
 |n,.non,_=>by simp
 |n,.bl _,_=>by simp
 |n,.int _,_=>by simp
 |n,.str _,_=>by simp
 |n,.ty _,h=>by cases n<;>simp[aq]at h
 |n,.dk _ _,h=>by simp at h
 |n,.dt _ _,h=>by simp at h
 |0,.tup _,h=>by simp[aq]at h
 |0,.lst _,h=>by simp[aq]at h
 |n+1,.tup ds,h=>by
  simp only[aq,List.all_eq_true]at h;simp only[bA];exact nA ds λd hd=>qT n d (h d hd)
 |n+1,.lst ds,h=>by
  simp only[aq,List.all_eq_true]at h;simp only[bA];exact nA ds λd hd=>qT n d (h d hd)
end DL
namespace DL
@[simp] noncomputable abbrev sF (d:D):OB:=some (d,false)
@[simp] noncomputable abbrev lT (ds:List D):OB:=some (.lst ds,true)
theorem cW {r:OB}{d:D}{b:Bool}(h:RI r d b=true:=by decide +kernel):r=some (d,b):=FW h
theorem Tk {r:OB}{d:D}{b:Bool}(h:RI r d b=true:=by rfl):r=some (d,b):=FW h
theorem cL {p q:Prop}[Decidable p](h:p)(n:decide p=false:=by decide +kernel):q:=absurd h (of_decide_eq_false n)
end DL
namespace Lw
open PySem DL L2
theorem Eh (d:D)(r:List D):nU (d::r) 0=some d:=by have:=kj (xs:=d::r) (j:=0) (by simp);simpa using this
theorem Ei (d e:D)(r:List D):nU (d::e::r) 1=some e:=by have:=kj (xs:=d::e::r) (j:=1) (by simp);simpa using this
theorem Vi (d e f:D)(r:List D):nU (d::e::f::r) 2=some f:=by have:=kj (xs:=d::e::f::r) (j:=2) (by simp);simpa using this
noncomputable def cN (k:Str):Bool:=decide (k = "death") || decide (k = "lost") || decide (k = "found")
noncomputable def dQ (k:Str):Bool:=decide (k = "chosen") || decide (k = "heir") || decide (k = "leave") || decide (k = "paper") || decide (k = "like") || decide (k = "copy") || decide (k = "call")
structure DeedP (kind:Str)(aC:List D):Prop where
 flat:bx aC=true
 plain:aC.all (aq 5)=true
 three:cN kind=true->∃(day:Int)(p:Str),aC=[.int day,.str p]
 slg:dQ kind=true->∃(day:Int)(p:Str)(r:List D),aC=.int day::.str p::r
noncomputable def row (h:Int)(kind:Str)(aC:List D):D:=.tup [.int h,.tup (.str kind::aC)]
def nB (r:D):Prop:=∃h kind aC,r=row h kind aC/\DeedP kind aC
theorem nB.flat (h:nB r):bu r=true:=by obtain⟨a,k,aC,rfl,dp⟩:=h;simp[row,dp.flat]
theorem nB.plain (h:nB r):aq 39 r=true:=by
 obtain⟨a,k,aC,rfl,dp⟩:=h;refine jB 7 39 _ (by decide) ?_;have:=dp.plain;simp only[row,aq,List.all_cons,List.all_nil,Bool.and_true,Bool.true_and];exact this
theorem bL (h:∀d∈ds,bu d=true):bx ds=true:=by
 induction ds with
 |nil=>rfl
 |cons d r ih=>simp[h d (by simp),ih λe he=>h e (by simp[he])]
theorem dR (zs:List Str):bx (zs.map D.str)=true:=by
 induction zs with
 |nil=>rfl
 |cons a l ih=>simp[ih]
noncomputable def aS:D->Int
 |.tup (.int h::_)=>h
 |_=>0
noncomputable def kindOf:D->Str
 |.tup [_,.tup (.str k::_)]=>k
 |_=>("" : Str)
noncomputable def az:D->Int
 |.tup [_,.tup (_::.int d::_)]=>d
 |_=>0
noncomputable def tX (p:Str)(day:Int):List D->Bool
 |[.int d,.str q]=>decide (q=p) && decide (d<=day)
 |_=>false
def told (ws:List Str)(p:Str)(day:Int):D->Bool
 |.tup [_,.tup (.str kind::aC)]=>decide (kind∈ws) && tX p day aC
 |_=>false
theorem iL (h:Int)(kind:Str)(aC:List D):aJ [row h kind aC]=sF (.str kind):=aw rfl (ay (by simp[row,Ei,Eh]))
theorem kx (h:cN k=true):k = "death" ∨ k = "lost" ∨ k = "found":=by
 unfold cN at h;simp only[Bool.or_eq_true,decide_eq_true_eq]at h;rcases h with (h|h)|h
 ·exact .inl h
 ·exact .inr (.inl h)
 ·exact .inr (.inr h)
theorem lJ (h:dQ k=true):k = "chosen" ∨ k = "heir" ∨ k = "leave" ∨ k = "paper" ∨ k = "like" ∨ k = "copy" ∨ k = "call":=by
 unfold dQ at h;simp only[Bool.or_eq_true,decide_eq_true_eq]at h;rcases h with (((((h|h)|h)|h)|h)|h)|h
 ·exact .inl h
 ·exact .inr (.inl h)
 ·exact .inr (.inr (.inl h))
 ·exact .inr (.inr (.inr (.inl h)))
 ·exact .inr (.inr (.inr (.inr (.inl h))))
 ·exact .inr (.inr (.inr (.inr (.inr (.inl h)))))
 ·exact .inr (.inr (.inr (.inr (.inr (.inr h)))))
theorem Jd (h:cN k=true∨dQ k=true):oN gI (.str k) (.str "day")=sF (.int 0):=by
 rcases h with h|h
 ·rcases kx h with rfl|rfl|rfl<;>exact cW
 ·rcases lJ h with rfl|rfl|rfl|rfl|rfl|rfl|rfl<;>exact cW
theorem A9 (h:cN k=true):oN gI (.str k) (.str "person")=sF (.int 1):=by
 rcases kx h with rfl|rfl|rfl<;>exact cW
theorem FY (h:cN k=true∨dQ k=true):eB (.str k) (.str "root")=sF (.bl false):=by
 rcases h with h|h
 ·rcases kx h with rfl|rfl|rfl<;>exact cW
 ·rcases lJ h with rfl|rfl|rfl|rfl|rfl|rfl|rfl<;>exact cW
theorem bj {h:Int}{k:Str}{aC:List D}{part:Str}{i:Nat}{d:D}(hi:oN gI (.str k) (.str part)=sF (.int i))(hd:aC[i]? = some d):au [row h k aC,.str part]=some (d,false):=by
 refine aw rfl (ay ?_);refine bw (.tup (.str k::aC)) (.int (1+i)) (by simp[row,Ei]) (bw (.int 1) (.int i) rfl (bw (.str k) (.str part) (aL [row h k aC] rfl (iL _ _ _)) rfl hi) (by simp)) ?_;have fG:i<aC.length:=(vV hd).1;have:nU (.str k::aC) (1+(i:Int))=some d:=by
  have:=kj (xs:=(.str k:D)::aC) (j:=i+1) (by simp;omega);rw[show(1+(i:Int))=((i+1:Nat):Int) by omega,this];simp only[List.getElem_cons_succ];rw[vU fG]at hd;exact hd
 simp[this]
theorem jm {h:Int}{k:Str}{aC:List D}{d:Int}{r:List D}(hk:cN k=true∨dQ k=true)(hr:aC=.int d::r):aO [row h k aC]=sF (.int d):=by
 subst hr;refine aw rfl (aA (cY (bw (.str k) (.str "root") (aL [row h k (.int d::r)] rfl (iL _ _ _)) rfl (FY hk))) (ay (aL [row h k (.int d::r),.str "day"] rfl (bj (i:=0) (Jd hk) rfl))))
theorem qU (k:Str)(ws:List Str):Hg (.str k) (ws.map .str)=decide (k∈ws):=by
 induction ws with
 |nil=>simp[Hg]
 |cons w ws ih=>
  have:Hg (.str k) ((w::ws).map .str)=(bA (.str w) (.str k) || Hg (.str k) (ws.map .str)):=rfl;rw[this,ih,nW];by_cases e:w=k
  ·simp[e]
  ·have e':¬k=w:=λz=>e z.symm;simp[e,e']
theorem nD (ws:List Str):(ws.map D.str).all gf=true:=by
 induction ws with
 |nil=>rfl
 |cons w ws ih=>simp[gf]
theorem jn (k:Str)(ws:List Str):z9 (.str k) (.tup (ws.map .str))=sF (.bl (decide (k∈ws))):=by
 simp only[z9,gU,vJ,qU];rw[if_pos ⟨rfl,nD ws⟩]
theorem FZ (hr:nB r)(ws:List Str)(hw:∀w∈ws,cN w=true)(p:Str)(day:Int):pz [r,.tup (ws.map .str),.str p,.int day]=sF (.bl (told ws p day r)):=by
 obtain⟨h,kind,aC,rfl,dp⟩:=hr;have Ka:f2 z9 (fA aJ (fV 0 aj)) (ai 1) [some (row h kind aC,false),sF (.tup (ws.map .str)),sF (.str p),sF (.int day)]=sF (.bl (decide (kind∈ws))) :=
  bw (.str kind) (.tup (ws.map .str)) (aL [row h kind aC] rfl (iL _ _ _)) rfl (jn kind ws)
 have ht:told ws p day (row h kind aC)=(decide (kind∈ws) && tX p day aC):=rfl;rw[ht];refine aw rfl (ay (dJ (b1:=false) Ka λhk=>?_));have h3:=hw kind (of_decide_eq_true hk);obtain⟨d,q,rfl⟩:=dp.three h3;show kU _ _ _=sF (.bl (decide (q=p) && decide (d<=day)));refine dJ (b1:=false) ?_ λ_=>?_
 ·exact bw (.str q) (.str p) (aL [row h kind [.int d,.str q],.str "person"] rfl (bj (i:=1) (A9 h3) rfl)) rfl (by simp)
 ·exact bw (.int d) (.int day) (aL [row h kind [.int d,.str q]] rfl (jm (.inl h3) rfl)) rfl (by simp)
theorem Ga (ds:List D):sZ ds=ds.zipIdx.map λx=>.tup [.int x.2,x.1]:=by
 unfold sZ;apply List.ext_getElem?;intro i;simp[List.getElem?_mapIdx,List.getElem?_zipIdx];cases ds[i]?<;>simp
noncomputable def ak (ab:List D)(aa:Int):List (D×Nat):=ab.zipIdx.filter λx=>decide (aS x.1<=aa)
theorem ky (ab:List D)(hr:∀r∈ab,nB r)(hl:ab.length<=1000)(aa:Int):c9 [.tup ab,.int aa]=lT ((ak ab aa).map λx=>.int x.2):=by
 have hc:=gE (fi:=Fe (ai 0)) (nT:=2) (cap:=[1]) (tg:=Hh [0,1]) (c:=bp (f2 sU (du 1 0) (ai 2))) (fe:=ai 0) (ρ:=[sF (.tup ab),sF (.int aa)]) ab.zipIdx (λx=>.tup [.int x.2,x.1]) (λx=>decide (aS x.1<=aa)) (λx=>.int x.2)
  (by simp[Ga]) (by simp;omega) λx hx=>by
   obtain⟨h,kind,aC,e,_⟩:=hr x.1 (List.fst_mem_of_mem_zipIdx hx);refine⟨_,rfl,cY ?_,λ_=>⟨false,by simp[dG]⟩⟩;simp[dG,e,row,Eh,aS]
 exact aw rfl (ay hc)
def oP (ab:List D)(aa:Int)(ws:List Str)(p:Str)(day:Int):List (D×Nat):=(ak ab aa).filter λx=>told ws p day x.1
theorem BS (h:x∈oP ab aa ws p day):ab[x.2]? = some x.1/\told ws p day x.1=true:=by
 obtain⟨h1,h2⟩:=vN h;exact⟨(List.mk_mem_zipIdx_iff_getElem? (x:=x.1) (i:=x.2)).mp (vN h1).1,h2⟩
theorem c6 {ab:List D}{i:Nat}{r:D}(h:ab[i]? = some r):nU ab (i:Int)=some r:=by
 obtain⟨fG,e⟩:=vV h;rw[kj fG,e]
theorem Je (ab:List D)(aa:Int)(ws:List Str)(p:Str)(day:Int):(oP ab aa ws p day).length<=ab.length:=by
 have h1:=vM (λx:D×Nat=>told ws p day x.1) (ak ab aa);have h2:=vM (λx:D×Nat=>decide (aS x.1<=aa)) ab.zipIdx;rw[List.length_zipIdx]at h2;exact vR h1 h2
theorem wx (ab:List D)(hr:∀r∈ab,nB r)(hl:ab.length<=1000)(aa:Int)(ws:List Str)(hw:∀w∈ws,cN w=true)(p:Str)(day:Int):
  gN [.tup ab,.int aa,.tup (ws.map .str),.str p,.int day]=lT ((oP ab aa ws p day).map λx=>.int x.2):=by
 have hc:=gE (fi:=cm (fA c9 (fV 0 (fV 1 aj)))) (nT:=1) (cap:=[2,3,4,0]) (tg:=dE 0) (c:=bp (fA pz (af (f2 b7 (ai 4) (ai 0)) (fV 1 (fV 2 (fV 3 aj)))))) (fe:=ai 0)
  (ρ:=[sF (.tup ab),sF (.int aa),sF (.tup (ws.map .str)),sF (.str p),sF (.int day)]) (ak ab aa) (λx=>.int x.2) (λx=>told ws p day x.1) (λx=>.int x.2)
  (by
   show(fA c9 (fV 0 (fV 1 aj)) _).bind _=_;rw[aL [.tup ab,.int aa] rfl (ky ab hr hl aa)];rfl) (by have:=vM (λx:D×Nat=>decide (aS x.1<=aa)) ab.zipIdx;rw[List.length_zipIdx]at this;exact vR this (by omega)) λx hx=>by
   have hg:ab[x.2]? = some x.1:=(List.mk_mem_zipIdx_iff_getElem? (x:=x.1) (i:=x.2)).mp (vN hx).1;refine⟨_,rfl,cY (aL [x.1,.tup (ws.map .str),.str p,.int day] ?_ (FZ (hr _ (vL hg)) ws hw p day)),λ_=>⟨false,by simp[dG]⟩⟩;have ha:=c6 hg;simp[dG,ha]
 exact aw rfl (ay hc)
def kA (x:D×Nat):List At:=[.i (az x.1),.i x.2]
def fK (a b:D×Nat):Bool:=decide (az a.1<az b.1∨(az a.1=az b.1/\(a.2:Int)<b.2))
def g8:D×Nat->List (D×Nat)->D×Nat
 |b,[]=>b
 |b,x::r=>if fK b x=true then g8 x r else g8 b r
def Ld:List (D×Nat)->Option (D×Nat)
 |[]=>none
 |x::r=>some (g8 x r)
theorem Nl (a b c d:Int):ba [.i a,.i b] [.i c,.i d]=some (decide (a<c∨(a=c/\b<d))):=by
 rw[ba];by_cases h:a=c
 ·rw[if_pos h,ba];by_cases h2:b=d
  ·rw[if_pos h2,ba];simp[h,h2]
  ·rw[if_neg h2];simp[h]
 ·rw[if_neg h];simp[h]
theorem wy (a b:D×Nat):ba (kA a) (kA b)=some (fK a b):=Nl _ _ _ _
theorem wz (l:List (D×Nat)):eD (l.map kA)=true:=by
 unfold eD;simp[List.all_eq_true,wy]
theorem nE:∀(r:List (D×Nat))(b:D×Nat),mw (kA b,.int b.2) (r.map λx=>(kA x,D.int x.2))=.int (g8 b r).2
 |[],b=>rfl
 |x::r,b=>by
  rw[uY,mw,g8];show(if ba (kA b) (kA x)=some true then _ else _)=_;rw[wy];by_cases h:fK b x=true
  ·rw[if_pos h,if_pos (by rw[h])];exact nE r x
  ·rw[if_neg h,if_neg (by simpa using h)];exact nE r b
theorem qV:∀(r:List (D×Nat))(b:D×Nat),g8 b r∈b::r
 |[],b=>by simp[g8]
 |x::r,b=>by
  rw[g8];split
  ·exact mZ _ (qV r x)
  ·rcases vP (qV r b)with h|h
   ·rw[h];exact mX
   ·exact mZ _ (mZ _ h)
theorem ie {α:Type}{f:D->Option D}{g h:α->D}:∀(l:List α),(∀x∈l,f (g x)=some (h x))->jf f (l.map g)=some (l.map h)
 |[],_=>rfl
 |x::l,hx=>by
  rw[uY,jf,hx x mX,vJ,ie l λy hy=>hx y (mZ _ hy)];rfl
theorem gO {α:Type}{g:α->D}{h:α->List At}:∀(l:List α),(∀x∈l,yk (g x)=some (h x))->dz (l.map g)=some (l.map h)
 |[],_=>rfl
 |x::l,hx=>by
  rw[uY,dz,hx x mX,vJ,gO l λy hy=>hx y (mZ _ hy)];rfl
noncomputable def mF:List Str:=[("lost" : Str),"found"]
theorem o4:∀w∈mF,cN w=true:=by
 intro w hw;rcases vP hw with rfl|hw
 ·decide +kernel
 ·rcases vP hw with rfl|hw
  ·decide +kernel
  ·cases hw
def yG (ab:List D)(aa:Int)(p:Str)(day:Int):Bool:=match Ld (oP ab aa mF p day) with
 |none=>true
 |some b=>decide (kindOf b.1 = "found")
theorem qW (hw:∀w∈ws,cN w=true)(hr:nB r)(ht:told ws p day r=true):∃h k d,r=row h k [.int d,.str p]/\cN k=true/\k∈ws/\d<=day:=by
 obtain⟨h,kind,aC,rfl,dp⟩:=hr;have QM:(decide (kind∈ws) && tX p day aC)=true:=ht;rw[vC]at QM;have hm:=of_decide_eq_true QM.1;obtain⟨d,q,rfl⟩:=dp.three (hw _ hm);have hq:(decide (q=p) && decide (d<=day))=true:=QM.2;rw[vC]at hq;have:=of_decide_eq_true hq.1;subst this;exact⟨h,kind,d,rfl,hw _ hm,hm,of_decide_eq_true hq.2⟩
theorem BU {ab:List D}{i:Nat}{h d:Int}{k p:Str}(hg:ab[i]? = some (row h k [.int d,.str p]))(h3:cN k=true):eX [.tup ab,.int i]=sF (.tup [.int d,.int i]):=by
 have ha:=c6 hg;refine aw rfl (ay (aL [.int d,.int i] (aF (d:=.int d) (b:=false) (aL [row h k [.int d,.str p]] (by simp[ha]) (jm (.inl h3) rfl)) rfl) (by simp[sizeLine])))
theorem Jf (ab:List D)(hr:∀r∈ab,nB r)(hl:ab.length<=1000)(aa:Int)(p:Str)(day:Int):lE [.tup ab,.int aa,.str p,.int day]=sF (.bl (yG ab aa p day)):=by
 have ht:=wx ab hr hl aa mF o4 p day;have Rk:=Je ab aa mF p day;have key:∀x∈oP ab aa mF p day,∃h k d,ab[x.2]? = some (row h k [.int d,.str p])/\x.1=row h k [.int d,.str p]/\cN k=true:=λx hx=>by
  obtain⟨hg,U0⟩:=BS hx;obtain⟨h,k,d,e,h3,_⟩:=qW o4 (hr _ (vL hg)) U0;exact⟨h,k,d,by rw[hg,e],e,h3⟩
 unfold yG;generalize hsel:oP ab aa mF p day=sel at ht key Rk ⊢;have Kd:fA gN (fV 0 (fV 1 (af (fA aY (af (fS "lost") (af (fS "found") aj))) (fV 2 (fV 3 aj))))) [sF (.tup ab),sF (.int aa),sF (.str p),sF (.int day),none]=lT (sel.map λx=>.int x.2) :=
  aL [.tup ab,.int aa,.tup (mF.map .str),.str p,.int day] (by simp[mF,sizeLine]) ht
 have Sg:bx (sel.map λx=>D.int x.2)=true:=bL λd hd=>by obtain⟨x,_,rfl⟩:=vO hd;rfl
 cases sel with
 |nil=>exact aw rfl (cf Kd Sg (bB (cY (by simp)) (ay rfl)))
 |cons x r=>
  refine aw rfl (cf Kd Sg (aA (cY (by simp;omega)) (ay ?_)));obtain⟨h,k,d,hg,e,h3⟩:=key (g8 x r) (qV r x);have hb:kindOf (g8 x r).1=k:=by rw[e];rfl
  show _=some (D.bl (decide (kindOf (g8 x r).1 = "found")),false);rw[hb];refine bw (.str k) (.str "found") (aL [row h k [.int d,.str p]] (aF (d:=row h k [.int d,.str p]) (b:=false) (bw (.tup ab) (.int (g8 x r).2) rfl ?_ (by simp[c6 hg])) rfl) (iL _ _ _)) rfl (by simp);have hm:∀ρ:DL.Env,ρ[0]? = some (sF (.tup ab))->jf (pX [0] (fA eX (fV 1 (fV 0 aj))) ρ) ((x::r).map λx=>D.int x.2)=some ((x::r).map λx=>.tup [.int (az x.1),.int x.2]):=λρ h0=>
   ie (x::r) λy hy=>by
    obtain⟨h,k,d,hg,e,h3⟩:=key y hy;have hd:az y.1=d:=by rw[e];rfl
    rw[hd];show(fA eX _ _).map _=_;rw[aL [.tup ab,.int y.2] (by simp[dG,h0]) (BU hg h3)];rfl
  have hk:dz ((x::r).map λx=>D.tup [.int (az x.1),.int x.2])=some ((x::r).map kA):=gO (x::r) λy _=>rfl;have hz:((x::r).map kA).zip ((x::r).map λx=>D.int x.2)=(kA x,.int x.2)::r.map λx=>(kA x,D.int x.2):=by
   rw[List.zip_map'];rfl
  show(tI (ai 4) _ _)=_;unfold tI MX;show((some (D.lst ((x::r).map λx=>D.int x.2),false)).bind _)=_;simp only[vJ];rw[hm _ rfl];simp only[vJ];rw[hk];simp only[vJ];rw[if_pos (wz _),hz];simp only[nE]
noncomputable def dS:List Str:=[("death" : Str)]
theorem jC:∀w∈dS,cN w=true:=by
 intro w hw;rcases vP hw with rfl|hw
 ·decide +kernel
 ·cases hw
def nF (ab:List D)(aa:Int)(p:Str)(day:Int):Bool:=(oP ab aa dS p day).isEmpty
theorem yH (ab:List D)(hr:∀r∈ab,nB r)(hl:ab.length<=1000)(aa:Int)(p:Str)(day:Int):m7 [.tup ab,.int aa,.str p,.int day]=sF (.bl (nF ab aa p day)):=by
 have ht:=wx ab hr hl aa dS jC p day;unfold nF;generalize oP ab aa dS p day=sel at ht ⊢;refine aw rfl (ay (bw (.int ((sel.map λx=>D.int x.2).length:Nat)) (.int 0) ?_ rfl ?_))
 ·exact aL [.lst (sel.map λx=>.int x.2)] (aF (d:=.lst (sel.map λx=>.int x.2)) (b:=true) (aL [.tup ab,.int aa,.tup (dS.map .str),.str p,.int day] (by simp[sizeLine,dS]) ht) rfl) Jc
 ·rw[BJ];cases sel<;>simp
  omega
noncomputable def cQ:D->Str
 |.tup [_,.tup (_::_::.str p::_)]=>p
 |_=>("" : Str)
noncomputable def yI:List Str:=[("chosen" : Str),"heir","leave","paper","like","copy","call"]
theorem qX (k:Str):dQ k=decide (k∈yI):=by
 unfold dQ yI;simp[List.mem_cons,Bool.or_assoc]
theorem AA:hV=.tup (yI.map .str):=rfl
theorem o5 (k:Str)(ws:List Str):gV (.str k) (.tup (ws.map .str))=sF (.bl (!decide (k∈ws))):=by
 simp only[gV,gU,vJ,qU];rw[if_pos ⟨rfl,nD ws⟩]
theorem Gb (h:dQ k=true):oN gI (.str k) (.str "by")=sF (.int 1):=by
 rcases lJ h with rfl|rfl|rfl|rfl|rfl|rfl|rfl<;>exact cW
def ig (ab:List D)(aa:Int)(r:D):Bool:=(decide (aS r<=aa) && dQ (kindOf r)) && (nF ab aa (cQ r) (az r) && yG ab aa (cQ r) (az r))
theorem k6 {ab:List D}{i:Nat}{h:Int}{kind:Str}{aC:List D}(hg:ab[i]? = some (row h kind aC))(aa:Int):cz [.tup ab,.int aa,.int i]=sF (.bl (decide (h<=aa))):=by
 have fG:i<ab.length:=(vV hg).1;have ha:=c6 hg;refine aw rfl (ay ?_);have:=dJ (f1:=jx sU MA (fI 0) (ai 2) (fA gT (fV 0 aj))) (f2:=f2 sU (f2 b7 (f2 b7 (ai 0) (ai 2)) (fI 0)) (ai 1)) (ρ:=[sF (.tup ab),sF (.int aa),sF (.int i)]) (p:=true) (q:=decide (h<=aa)) (b1:=false)
  (by
   refine(qw (x:=.int 0) (y:=.int i) (z:=.int ab.length) (b1:=false) (b2:=false) (b3:=false) (b4:=false) (p:=true) (q:=true) rfl rfl (by simp) (by simp) λ_=>?_).trans rfl;simp;omega) λ_=>by simp[ha,row,Eh]
 exact this
theorem qY (ab:List D)(hr:∀r∈ab,nB r)(hl:ab.length<=1000)(aa:Int){i:Nat}{r:D}(hg:ab[i]? = some r):fP [.tup ab,.int aa,.int i]=sF (.bl (ig ab aa r)):=by
 obtain⟨h,kind,aC,rfl,dp⟩:=hr r (vL hg);have hk:=k6 hg aa;have ha:=c6 hg;have Rm:∀(ρ:DL.Env),f2 b7 (ai 0) (ai 2) ρ=some (row h kind aC,false)->fA aJ (af (f2 b7 (ai 0) (ai 2)) aj) ρ=sF (.str kind):=λρ e=>aL [row h kind aC] (aF e rfl) (iL _ _ _);have AS:f2 b7 (ai 0) (ai 2) [sF (.tup ab),sF (.int aa),sF (.int i),none,none]=some (row h kind aC,false):=by simp[ha]
 have hc:(jN (fj (bp (fA cz (fV 0 (fV 1 (fV 2 aj)))))) (bp (f2 gV (fA aJ (af (f2 b7 (ai 0) (ai 2)) aj)) (fC hV)))) [sF (.tup ab),sF (.int aa),sF (.int i),none,none]=some (!decide (h<=aa) || !dQ kind):=by
  refine de (cu (cY (aL [.tup ab,.int aa,.int i] rfl hk))) λ_=>cY (bw (.str kind) hV (Rm _ AS) rfl ?_);rw[AA,qX];exact o5 kind yI
 have hs:ig ab aa (row h kind aC)=((decide (h<=aa) && dQ kind) && (nF ab aa (cQ (row h kind aC)) (az (row h kind aC)) && yG ab aa (cQ (row h kind aC)) (az (row h kind aC)))):=rfl;cases hb:(decide (h<=aa) && dQ kind) with
 |false=>
  rw[hs,hb];refine aw rfl (bB (hc.trans ?_) (ay rfl));rw[←Bool.not_and,hb];rfl
 |true=>
  rw[hs,hb];rw[vC]at hb;obtain⟨day,p,r',rfl⟩:=dp.slg hb.2;show _=some (D.bl (true && (nF ab aa p day && yG ab aa p day)),false);rw[Bool.true_and];refine aw rfl (aA (hc.trans (by rw[hb.1,hb.2];rfl)) (ga (.str p) (aL [row h kind (.int day::.str p::r'),.str "by"] (aF AS rfl) (bj (i:=1) (Gb hb.2) rfl)) rfl (ga (.int day) (aL [row h kind (.int day::.str p::r')] (aF (d:=row h kind (.int day::.str p::r')) (b:=false) (by simp[ha]) rfl) (jm (.inr hb.2) rfl)) rfl (ay ?_))));exact dJ (b1:=false) (aL [.tup ab,.int aa,.str p,.int day] (by simp) (yH ab hr hl aa p day)) λ_=>aL [.tup ab,.int aa,.str p,.int day] (by simp) (Jf ab hr hl aa p day)
inductive Cd:Str->List D->Prop
 |root (o r:Str) (m f:Int):Cd ("root" : Str) [.str o,.int m,.int f,.str r]
 |named (d:Int) (o p:Str):Cd ("named" : Str) [.int d,.str o,.str p]
 |chosen (d:Int) (b o p:Str) (s:Int):Cd ("chosen" : Str) [.int d,.str b,.str o,.str p,.int s]
 |heir (d:Int) (b o p:Str):Cd ("heir" : Str) [.int d,.str b,.str o,.str p]
 |three (k:Str) (hk:k = "death" ∨ k = "lost" ∨ k = "found") (d:Int) (p:Str):Cd k [.int d,.str p]
 |other (k:Str) (hk:k = "leave" ∨ k = "paper" ∨ k = "like" ∨ k = "copy" ∨ k = "call") (d:Int) (b:Str) (r:List D) (hf:bx r=true) (hp:r.all (aq 5)=true):Cd k (.int d::.str b::r)
theorem Cd.deed (h:Cd k r):DeedP k r:=by
 cases h with
 |root o rl m f=>exact⟨rfl,by simp,λh=>cL h,λh=>cL h⟩
 |named d o p=>exact⟨rfl,by simp,λh=>cL h,λh=>cL h⟩
 |chosen d b o p s=>exact⟨rfl,by simp,λh=>cL h,λ_=>⟨d,b,_,rfl⟩⟩
 |heir d b o p=>exact⟨rfl,by simp,λh=>cL h,λ_=>⟨d,b,_,rfl⟩⟩
 |three k hk d p=>exact⟨rfl,by simp,λ_=>⟨d,p,rfl⟩,λh=>by rcases hk with rfl|rfl|rfl<;>exact cL h⟩
 |other k hk d b r hf hp=>exact⟨by simp[hf],by simp only[List.all_cons,hp,aq,Bool.and_true],λh=>by rcases hk with rfl|rfl|rfl|rfl|rfl<;>exact cL h,λ_=>⟨d,b,r,rfl⟩⟩
def w4 (r:D):Prop:=∃h k aC,r=row h k aC/\Cd k aC
theorem w4.rp (h:w4 r):nB r:=by obtain⟨a,k,aC,rfl,d⟩:=h;exact⟨a,k,aC,rfl,d.deed⟩
def bc (r:D):Bool:=decide (kindOf r = "root")
theorem Cd.day (h:Cd k r)(hk:k ≠ "root"):∃d q,r=.int d::q:=by
 cases h with
 |root=>exact absurd rfl hk
 |named d=>exact⟨d,_,rfl⟩
 |chosen d=>exact⟨d,_,rfl⟩
 |heir d=>exact⟨d,_,rfl⟩
 |three _ _ d=>exact⟨d,_,rfl⟩
 |other _ _ d=>exact⟨d,_,rfl⟩
theorem Cd.day_idx (h:Cd k r)(hk:k ≠ "root"):oN gI (.str k) (.str "day")=sF (.int 0):=by
 cases h with
 |root=>exact absurd rfl hk
 |named=>exact cW
 |chosen=>exact cW
 |heir=>exact cW
 |three _ hh=>rcases hh with rfl|rfl|rfl<;>exact cW
 |other _ hh=>rcases hh with rfl|rfl|rfl|rfl|rfl<;>exact cW
theorem bM (e:f ρ=some (.str a,bb))(h:decide (a=b)=x):bp (f2 eB f (fS b)) ρ=some x:=cY (iD (x:=.str a) (y:=.str b) (b1:=bb) (b2:=false) e rfl (by rw[←h];simp))
def sr (r:D):D:=if bc r=true then .non else .int (az r)
theorem iX (g:w4 r):aJ [r]=sF (.str (kindOf r)):=by
 obtain⟨h,k,aC,rfl,_⟩:=g;exact iL h k aC
theorem qZ (g:w4 r):aO [r]=some (sr r,false):=by
 obtain⟨h,k,aC,rfl,d⟩:=g;unfold sr;by_cases hk:k = "root"
 ·have:bc (row h k aC)=true:=decide_eq_true hk;rw[if_pos this];exact aw rfl (bB (bM (a:=k) (bb:=false) (aL [row h k aC] rfl (iL _ _ _)) (decide_eq_true hk)) (ay rfl))
 ·have:bc (row h k aC)=false:=decide_eq_false hk;rw[if_neg (by rw[this];decide)];obtain⟨dd,q,rfl⟩:=d.day hk;exact aw rfl (aA (bM (a:=k) (bb:=false) (aL [row h k (.int dd::q)] rfl (iL _ _ _)) (decide_eq_false hk)) (ay (aL [row h k (.int dd::q),.str "day"] rfl (bj (i:=0) (d.day_idx hk) rfl))))
def gs (ab:List D):Prop:=ab.length<=60/\∀r∈ab,w4 r
theorem gs.rp (g:gs ab):∀r∈ab,nB r:=λr hr=>(g.2 r hr).rp
theorem gs.le (g:gs ab):ab.length<=1000:=vR g.1 (by decide)
theorem bq (h:x∈ak ab aa):ab[x.2]? = some x.1:=by
 obtain⟨h1,_⟩:=vN h;exact List.mem_zipIdx_iff_getElem?.mp h1
theorem c7 (ab:List D)(aa:Int):(ak ab aa).length<=ab.length:=by
 have:=vM (λx:D×Nat=>decide (aS x.1<=aa)) ab.zipIdx;rw[List.length_zipIdx]at this;exact this
theorem fw (ab:List D)(aa:Int):((ak ab aa).map (·.2)).Nodup:=by
 have h1:(ab.zipIdx.map (·.2)).Nodup:=by rw[List.zipIdx_map_snd];exact List.nodup_range'
 exact List.Nodup.sublist (List.Sublist.map _ (List.filter_sublist)) h1
def cR (ab:List D)(aa:Int):List (D×Nat):=(ak ab aa).filter λx=>!bc x.1
def Qr (ab:List D)(aa:Int):List (D×Nat):=eC (λx=>cD (kA x)) (cR ab aa)
theorem Gc (h:cD (kA a)=cD (kA b)):a.2=b.2:=by
 have h:[az a.1,(a.2:Int)]=[az b.1,(b.2:Int)]:=h;injection h with _ h;injection h with h;omega
theorem Jg (ha:a∈ak ab aa)(hb:b∈ak ab aa)(h:a.2=b.2):a=b:=by
 have h1:=bq ha;have h2:=bq hb;rw[h,h2]at h1;exact Prod.ext (vK h1).symm h
theorem o6 (g:gs ab)(aa:Int):dL [.tup ab,.int aa]=lT ((Qr ab aa).map λx=>.int x.2):=by
 have hl:=g.1;have Rj:=c7 ab aa;have AS:∀x∈ak ab aa,nU ab (x.2:Int)=some x.1/\w4 x.1:=λx hx=>⟨c6 (bq hx),g.2 _ (vL (bq hx))⟩;have hc:=gE (fi:=cm (fA c9 (fV 0 (fV 1 aj)))) (nT:=1) (cap:=[0]) (tg:=dE 0) (c:=bp (f2 lz (fA aO (af (f2 b7 (ai 1) (ai 0)) aj)) (fC .non))) (fe:=ai 0) (ρ:=[sF (.tup ab),sF (.int aa),none]) (ak ab aa) (λx=>.int x.2) (λx=>!bc x.1) (λx=>.int x.2)
  (by
   show(fA c9 (fV 0 (fV 1 aj)) _).bind _=_;rw[aL [.tup ab,.int aa] rfl (ky ab g.rp g.le aa)];rfl) (by omega) λx hx=>by
   obtain⟨ha,gx⟩:=AS x hx;refine⟨_,rfl,cY (bw (sr x.1) .non (aL [x.1] (by simp[dG,ha]) (qZ gx)) rfl ?_),λ_=>⟨false,by simp[dG]⟩⟩;unfold sr;cases bc x.1<;>simp[CU]
 have JG:bO (cm (fA c9 (fV 0 (fV 1 aj)))) 1 [0] (dE 0) (bp (f2 lz (fA aO (af (f2 b7 (ai 1) (ai 0)) aj)) (fC .non))) (ai 0) [sF (.tup ab),sF (.int aa),none]=lT ((cR ab aa).map λx=>.int x.2):=hc;have zy:bx ((cR ab aa).map λx=>D.int x.2)=true:=bL λd hd=>by obtain⟨x,_,rfl⟩:=vO hd;rfl
 have NR:(cR ab aa).length<=60:=vR (vM _ _) (by omega);have nR:∀x∈cR ab aa,x∈ak ab aa/\bc x.1=false:=λx hx=>by
  obtain⟨h1,h2⟩:=vN hx;exact⟨h1,by simpa using h2⟩
 have hm:∀ρ:DL.Env,ρ[0]? = some (sF (.tup ab))->jf (pX [0] (fA eX (fV 1 (fV 0 aj))) ρ) ((cR ab aa).map λx=>.int x.2)=some ((cR ab aa).map λx=>.tup [.int (az x.1),.int x.2]):=λρ h0=>
  ie (cR ab aa) λx hx=>by
   obtain⟨h1,h2⟩:=nR x hx;obtain⟨ha,gx⟩:=AS x h1;have hd:=qZ gx;unfold sr at hd;rw[h2,if_neg (by decide)]at hd;have hr:eX [.tup ab,.int x.2]=sF (.tup [.int (az x.1),.int x.2]):=aw rfl (ay (aL [.int (az x.1),.int x.2] (aF (d:=.int (az x.1)) (b:=false) (aL [x.1] (by simp[ha]) hd) rfl) (by simp[sizeLine])));show(fA eX _ _).map _=_;rw[aL [.tup ab,.int x.2] (by simp[dG,h0]) hr];rfl
 have hk:dz ((cR ab aa).map λx=>D.tup [.int (az x.1),.int x.2])=some ((cR ab aa).map kA):=gO _ λx _=>rfl;have hz:((cR ab aa).map kA).zip ((cR ab aa).map λx=>D.int x.2)=(cR ab aa).map λx=>(kA x,D.int x.2):=by rw[List.zip_map']
 have Ke:((cR ab aa).map (·.2)).Nodup:=List.Nodup.sublist (List.Sublist.map _ (List.filter_sublist)) (fw ab aa);have ju:((cR ab aa).map kA).length<64/\eD ((cR ab aa).map kA)=true/\fu ((cR ab aa).map kA)=true/\(((cR ab aa).map kA).map cD).Nodup:=by
  refine⟨by rw[vI];omega,wz _,?_,?_⟩
  ·unfold fu;rw[Bool.or_eq_true];left;simp[List.all_eq_true,kA]
  ·rw[uP];exact List.Pairwise.map _ (λa b h e=>h (Gc e)) (List.pairwise_map.mp Ke)
 refine aw rfl (cf JG zy (ay ?_));show(pZ (ai 2) _ _)=_;unfold pZ;show((some (D.lst ((cR ab aa).map λx=>D.int x.2),false)).bind _)=_;simp only[vJ];rw[hm _ rfl];simp only[vJ];rw[hk];simp only[vJ];rw[if_pos ju];unfold jg;rw[hz];have key:((Qr ab aa).map λx=>(kA x,D.int x.2))=eC (λp:List At×D=>cD p.1) ((cR ab aa).map λx=>(kA x,D.int x.2)):=by
  refine jd _ (λx hx y hy e=>?_) ((bg _ _).map _) ?_
  ·obtain⟨a,ha,rfl⟩:=vO hx;obtain⟨b,hb,rfl⟩:=vO hy;rw[Jg (nR a ha).1 (nR b hb).1 (Gc e)]
  ·exact List.pairwise_map.mpr (dI _ _)
 rw[←key,uP];rfl
structure Cl where
 o:Str
 p:Str
 s:Int
 u:Option Int
 n:Nat
noncomputable def uD:Option Int->D
 |none=>.non
 |some x=>.int x
def aR (c:Cl):D:=.tup [.str c.o,.str c.p,.int c.s,uD c.u,.int c.n]
theorem BV (u:Option Int):bu (uD u)=true:=by cases u<;>rfl
theorem mG (c:Cl):bu (aR c)=true:=by simp[aR,BV]
theorem jo (cs:List Cl):bx (cs.map aR)=true:=bL λd hd=>by obtain⟨c,_,rfl⟩:=vO hd;exact mG c
noncomputable def ij (c:Cl)(day:Int):Bool:=decide (c.s<=day) && (match c.u with|none=>true|some x=>decide (day<x))
theorem WS (d e f g:D)(r:List D):nU (d::e::f::g::r) 3=some g:=by have:=kj (xs:=d::e::f::g::r) (j:=3) (by simp);simpa using this
theorem WT (d e f g h:D)(r:List D):nU (d::e::f::g::h::r) 4=some h:=by have:=kj (xs:=d::e::f::g::h::r) (j:=4) (by simp);simpa using this
theorem Qs (c:Cl):b7 (aR c) (.int 0)=sF (.str c.o):=by simp[aR,Eh]
theorem O2 (c:Cl):b7 (aR c) (.int 1)=sF (.str c.p):=by simp[aR,Ei]
theorem RL (c:Cl):b7 (aR c) (.int 2)=sF (.int c.s):=by simp[aR,Vi]
theorem WU (c:Cl):b7 (aR c) (.int 3)=some (uD c.u,false):=by simp[aR,WS]
theorem RM (c:Cl):b7 (aR c) (.int 4)=sF (.int c.n):=by simp[aR,WT]
theorem c8 (ds:List D)(h:ds.length<=100):aY ds=sF (.tup ds):=if_pos (dm (by omega))
theorem g9 (ds:List D)(h:ds.length<=100):bD ds=lT ds:=if_pos (dm (by omega))
theorem BW (s day:Int)(u:Option Int):jk [.int day,.tup [.int s,uD u]]=sF (.bl (decide (s<=day) && (match u with|none=>true|some x=>decide (day<x)))):=by
 refine aw rfl (ay (dJ (b1:=false) (by simp[Eh]) λ_=>?_));cases u with
 |none=>exact qx (p:=true) (q:=true) (b1:=false) (by simp[Ei,uD]) (by simp)
 |some x=>exact qx (p:=false) (q:=decide (day<x)) (b1:=false) (by simp[Ei,uD]) λ_=>by simp[Ei,uD]
theorem ra (c:Cl)(day:Int):cK [aR c,.int day]=sF (.bl (ij c day)) :=
 aw rfl (ay (aL [.int day,.tup [.int c.s,uD c.u]] (cj rfl (cj (aL [.int c.s,uD c.u] (aF (bw (aR c) (.int 2) rfl rfl (RL c)) (aF (bw (aR c) (.int 3) rfl rfl (WU c)) rfl)) (c8 _ (by simp))) rfl)) (BW c.s day c.u)))
theorem yJ (c:Cl):df [aR c]=sF (.tup [.int c.s,.int c.n]) :=
 aw rfl (ay (aL [.int c.s,.int c.n] (aF (bw (aR c) (.int 2) rfl rfl (RL c)) (aF (bw (aR c) (.int 4) rfl rfl (RM c)) rfl)) (c8 _ (by simp))))
theorem wA (c:Cl):gm [aR c]=sF (.tup [.str c.o,.int c.s,.int c.n]) :=
 aw rfl (ay (aL [.str c.o,.int c.s,.int c.n] (aF (bw (aR c) (.int 0) rfl rfl (Qs c)) (aF (bw (aR c) (.int 2) rfl rfl (RL c)) (aF (bw (aR c) (.int 4) rfl rfl (RM c)) rfl))) (c8 _ (by simp))))
noncomputable def kS (c:Cl):List At:=[.i c.s,.i c.n]
def mH:Cl->List Cl->Cl
 |b,[]=>b
 |b,x::r=>if ba (kS x) (kS b)=some true then mH x r else mH b r
def su:Cl->List Cl->Cl
 |b,[]=>b
 |b,x::r=>if ba (kS b) (kS x)=some true then su x r else su b r
theorem rb:∀(r:List Cl)(b:Cl),lg (kS b,aR b) (r.map λx=>(kS x,aR x))=aR (mH b r)
 |[],b=>rfl
 |x::r,b=>by
  rw[uY,lg,mH];split
  ·exact rb r x
  ·exact rb r b
theorem re:∀(r:List Cl)(b:Cl),mw (kS b,aR b) (r.map λx=>(kS x,aR x))=aR (su b r)
 |[],b=>rfl
 |x::r,b=>by
  rw[uY,mw,su];split
  ·exact re r x
  ·exact re r b
theorem BX (cs:List Cl):eD (cs.map kS)=true:=by
 unfold eD;simp[List.all_eq_true,kS,Nl]
theorem rf (ρ:DL.Env)(cs:List Cl):jf (sq df ρ) (cs.map aR)=some (cs.map λc=>.tup [.int c.s,.int c.n]):=ie cs λc _=>by
 show(df [aR c]).map _=_;rw[yJ];rfl
theorem o7 (cs:List Cl):dz (cs.map λc=>D.tup [.int c.s,.int c.n])=some (cs.map kS):=gO cs λc _=>rfl
theorem Gd (e:f ρ=some (.lst ((b::r).map aR),bb)):tJ f (sq df) ρ=some (aR (mH b r),false):=by
 unfold tJ MX;rw[e,vJ];dsimp only;rw[rf,vJ,o7,vJ,if_pos (BX _)];have:((b::r).map kS).zip ((b::r).map aR)=(kS b,aR b)::r.map λx=>(kS x,aR x):=by rw[List.zip_map'];rfl
 rw[this];show some (lg _ _,false)=_;rw[rb]
theorem Nm (e:f ρ=some (.lst ((b::r).map aR),bb)):tI f (sq df) ρ=some (aR (su b r),false):=by
 unfold tI MX;rw[e,vJ];dsimp only;rw[rf,vJ,o7,vJ,if_pos (BX _)];have:((b::r).map kS).zip ((b::r).map aR)=(kS b,aR b)::r.map λx=>(kS x,aR x):=by rw[List.zip_map'];rfl
 rw[this];show some (mw _ _,false)=_;rw[re]
def io (rl:Str)(b:Cl)(r:List Cl):Cl:=if rl = "last" then su b r else mH b r
theorem Ge (rl:Str)(b:Cl)(r:List Cl):lF [.lst ((b::r).map aR),.str rl]=sF (.str (io rl b r).p):=by
 unfold io;by_cases h:rl = "last"
 ·rw[if_pos h];exact aw rfl (bB (bM (a:=rl) (bb:=false) rfl (decide_eq_true h)) (ay (bw (aR (su b r)) (.int 1) (Nm (bb:=false) rfl) rfl (O2 _))))
 ·rw[if_neg h];exact aw rfl (aA (bM (a:=rl) (bb:=false) rfl (decide_eq_false h)) (ay (bw (aR (mH b r)) (.int 1) (Gd (bb:=false) rfl) rfl (O2 _))))
theorem rg:∀(r:List Cl)(b:Cl),mH b r∈b::r
 |[],b=>by simp[mH]
 |x::r,b=>by
  rw[mH];split
  ·exact mZ _ (rg r x)
  ·rcases vP (rg r b)with h|h
   ·rw[h];exact mX
   ·exact mZ _ (mZ _ h)
theorem rh:∀(r:List Cl)(b:Cl),su b r∈b::r
 |[],b=>by simp[su]
 |x::r,b=>by
  rw[su];split
  ·exact mZ _ (rh r x)
  ·rcases vP (rh r b)with h|h
   ·rw[h];exact mX
   ·exact mZ _ (mZ _ h)
theorem D1 (rl:Str)(b:Cl)(r:List Cl):io rl b r∈b::r:=by
 unfold io;split
 ·exact rh r b
 ·exact rg r b
noncomputable def O3 (cs:List Cl)(o:Str)(day:Int):List Cl:=cs.filter λc=>decide (c.o=o) && ij c day
def lK (cs:List Cl):List Str:=jZ (fH (cs.map (·.p)))
def Qt:List Cl->Nat
 |[]=>0
 |b::r=>(mH b r).n
def o8 (rl:Str):List Cl->D
 |[]=>.tup [.str "none"]
 |b::r=>if 1<(lK (b::r)).length/\rl = "open" then .tup [.str "parted",.lst ((lK (b::r)).map .str)]
  else .tup [.str "one",.str (io rl b r).p,.int (Qt ((b::r).filter λc=>decide (c.p=(io rl b r).p)))]
def jK (cs:List Cl)(o rl:Str)(day:Int):D:=o8 rl (O3 cs o day)
theorem Jh {z:Str}:fH (z::zs)≠[]:=by
 have:∀(ss:List Str)(ts:List Str),z∈ts->z∈ss.foldl j6 ts:=λss=>by
  induction ss with
  |nil=>intro ts h;exact h
  |cons a l ih=>intro ts h;exact ih _ (pN.mpr (.inl h))
 have h:=this zs (j6 [] z) (pN.mpr (.inr rfl));intro e;unfold fH at e;rw[List.foldl_cons]at e;rw[e]at h;cases h
theorem k7:au [row h ("root" : Str) [.str o,.int m,.int f,.str rl],.str "office"]=sF (.str o):=bj (i:=0) cW rfl
theorem D2:au [row h ("root" : Str) [.str o,.int m,.int f,.str rl],.str "rule"]=sF (.str rl):=bj (i:=3) cW rfl
theorem rj (zs:List Str):gB (zs.map .str)=some zs:=by
 induction zs with
 |nil=>rfl
 |cons z zs ih=>simp[ih]
theorem mI (cs:List Cl)(hl:cs.length<=60)(day:Int):dM [.lst (cs.map aR),row h ("root" : Str) [.str o,.int m,.int f,.str rl],.int day]=some (jK cs o rl day,false):=by
 let rt:D:=row h ("root" : Str) [.str o,.int m,.int f,.str rl];have h1:=gE (fi:=cm (ai 0)) (nT:=1) (cap:=[2,1]) (tg:=dE 0) (c:=dj (bp (f2 eB (du 0 0) (fA au (fV 2 (af (fS "office") aj))))) (bp (fA cK (fV 0 (fV 1 aj))))) (fe:=ai 0)
  (ρ:=[sF (.lst (cs.map aR)),some (rt,false),sF (.int day),none,none,none,none]) cs aR (λc=>decide (c.o=o) && ij c day) aR (by simp) (by omega) λc hc=>by
   refine⟨_,rfl,dD (cY (bw (.str c.o) (.str o) (bw (aR c) (.int 0) (by simp[dG]) rfl (Qs c)) (aL [rt,.str "office"] (by simp[dG]) k7) (by simp))) λ_=>cY (aL [aR c,.int day] (by simp[dG]) (ra c day)),λ_=>⟨false,by simp[dG]⟩⟩
 have RS:bO (cm (ai 0)) 1 [2,1] (dE 0) (dj (bp (f2 eB (du 0 0) (fA au (fV 2 (af (fS "office") aj))))) (bp (fA cK (fV 0 (fV 1 aj))))) (ai 0) [sF (.lst (cs.map aR)),some (rt,false),sF (.int day),none,none,none,none]=lT ((O3 cs o day).map aR):=h1;have Sh:(O3 cs o day).length<=60:=vR (vM _ _) hl;unfold jK;generalize O3 cs o day=al at RS Sh;have h2:∀ρ:DL.Env,ρ[3]? = some (lT (al.map aR))->f1 gY (bO (cm (ai 3)) 1 [] (dE 0) gQ (du 0 1)) ρ=lT ((lK al).map .str):=λρ h3=>by
  have hc:=oi (fi:=cm (ai 3)) (nT:=1) (cap:=[]) (tg:=dE 0) (fe:=du 0 1) (ρ:=ρ) al aR (λc=>.str c.p) (by simp[h3]) (by omega) λc hc=>⟨_,rfl,false,bw (aR c) (.int 1) (by simp[dG]) rfl (O2 c)⟩;have e2:al.map (λc=>D.str c.p)=(al.map (·.p)).map .str:=by rw[uP];rfl
  rw[e2]at hc;unfold f1;rw[hc,vJ];show(gB ((al.map (·.p)).map .str)).bind _=_;rw[rj,vJ,if_pos (by rw[vI];omega)];rfl
 have ls:bx ((lK al).map D.str)=true:=dR _;refine aw rfl (cf (ds:=al.map aR) RS (jo al) (cf (ds:=(lK al).map .str) (h2 _ rfl) ls ?_));cases al with
 |nil=>exact bB (cY (by simp[lK,fH,jZ])) (ay (aL [.str "none"] rfl (c8 _ (by simp))))
 |cons b r=>
  have nQ:(lK (b::r)).length≠0:=by
   unfold lK;rw[(fN _).length_eq];intro e;exact Jh (List.length_eq_zero_iff.mp e)
  refine aA (cY (by simp[nQ])) ?_;have GY:∀ρ:DL.Env,ρ[1]? = some (some (rt,false))->fA au (fV 1 (af (fS "rule") aj)) ρ=sF (.str rl):=λρ q1=>aL [rt,.str "rule"] (by simp[q1]) D2;by_cases hp:1<(lK (b::r)).length/\rl = "open"
  ·have:o8 rl (b::r)=.tup [.str "parted",.lst ((lK (b::r)).map .str)]:=by rw[o8,if_pos hp]
   rw[this];exact bB (dD (p:=true) (q:=true) (cY (by simp;omega)) λ_=>bM (bb:=false) (GY _ rfl) (decide_eq_true hp.2)) (ay (aL [.str "parted",.lst ((lK (b::r)).map .str)] (by simp) (c8 _ (by simp))))
  ·have:o8 rl (b::r)=.tup [.str "one",.str (io rl b r).p,.int (Qt ((b::r).filter λc=>decide (c.p=(io rl b r).p)))]:=by rw[o8,if_neg hp]
   rw[this];have ju:dj (bp (f2 Hf (fA gT (fV 4 aj)) (fI 1))) (bp (f2 eB (fA au (fV 1 (af (fS "rule") aj))) (fS "open"))) [sF (.lst (cs.map aR)),some (rt,false),sF (.int day),lT ((b::r).map aR),lT ((lK (b::r)).map .str),none,none]=some false:=by
    by_cases h5:1<(lK (b::r)).length
    ·exact dD (p:=true) (q:=false) (cY (by simp;omega)) λ_=>bM (bb:=false) (GY _ rfl) (decide_eq_false λe=>hp ⟨h5,e⟩)
    ·exact dD (p:=false) (q:=false) (cY (by simp;omega)) (by simp)
   have nR:=D1 rl b r;let ch:=io rl b r;have h6:=gE (fi:=cm (ai 3)) (nT:=1) (cap:=[5]) (tg:=dE 0) (c:=bp (f2 eB (du 0 1) (ai 1))) (fe:=ai 0) (ρ:=[sF (.lst (cs.map aR)),some (rt,false),sF (.int day),lT ((b::r).map aR),lT ((lK (b::r)).map .str),sF (.str ch.p),none]) (b::r) aR (λc=>decide (c.p=ch.p)) aR (by simp) (by omega) λc hc=>⟨_,rfl,cY (bw (.str c.p) (.str ch.p) (bw (aR c) (.int 1) (by simp[dG]) rfl (O2 c)) (by simp[dG]) (by simp)),λ_=>⟨false,by simp[dG]⟩⟩;obtain⟨b2,r2,hf⟩:∃b2 r2,(b::r).filter (λc=>decide (c.p=ch.p))=b2::r2:=by
    cases hq:(b::r).filter (λc=>decide (c.p=ch.p)) with
    |nil=>
     have:=List.filter_eq_nil_iff.mp hq _ nR;simp[ch]at this
    |cons b2 r2=>exact⟨b2,r2,rfl⟩
   rw[hf]at h6 ⊢;refine aA ju (ga (.str ch.p) (aL [.lst ((b::r).map aR),.str rl] (cj (by simp) (aF (GY _ rfl) rfl)) (Ge rl b r)) rfl (ga (aR (mH b2 r2)) (Gd (bb:=true) h6) (mG _) (ay (aL [.str "one",.str ch.p,.int (mH b2 r2).n] (cj rfl (cj rfl (aF (bw (aR (mH b2 r2)) (.int 4) rfl rfl (RM _)) rfl))) (c8 _ (by simp))))))
def Le:D->D
 |.tup ds=>.tup (se ds none (some 2))
 |d=>d
def iM (cs:List Cl)(o rl p:Str)(day:Int):Bool:=bA (Le (jK cs o rl day)) (.tup [.str "one",.str p])
theorem AB (n:Nat)(zs:List Str):(zs.map D.str).all (aq n)=true:=by
 induction zs with
 |nil=>rfl
 |cons a l ih=>simp
theorem D3 (rl:Str)(al:List Cl):∃ds,o8 rl al=.tup ds/\ds.all (aq 5)=true:=by
 cases al with
 |nil=>exact⟨_,rfl,by simp⟩
 |cons b r=>
  rw[o8];split
  ·exact⟨_,rfl,by simp only[List.all_cons,List.all_nil,aq,Bool.and_true,Bool.true_and];exact AB _ _⟩
  ·exact⟨_,rfl,by simp⟩
theorem Gf (h:ds.all (aq 5)=true):(se ds lo hi).all (aq 5)=true:=by
 rw[List.all_eq_true]at h ⊢;exact λd hd=>h d (List.mem_of_mem_drop (List.mem_of_mem_take hd))
theorem tY (h:ds.all (aq 5)=true):aq 40 (.tup ds)=true:=jB 6 40 _ (by decide) (by simpa only[aq]using h)
theorem wB (cs:List Cl)(hl:cs.length<=60)(p:Str)(day:Int):cH [.lst (cs.map aR),row h ("root" : Str) [.str o,.int m,.int f,.str rl],.str p,.int day]=sF (.bl (iM cs o rl p day)):=by
 have hb:=mI cs hl (h:=h) (o:=o) (rl:=rl) (m:=m) (f:=f) day;obtain⟨ds,e,hd⟩:=D3 rl (O3 cs o day);have e':jK cs o rl day=.tup ds:=e;refine aw rfl (ay (bw (Le (jK cs o rl day)) (.tup [.str "one",.str p]) ?_ (by simp[sizeLine]) ?_))
 ·have hc:=BI (F:=dM) (fa:=fV 0 (fV 1 (fV 3 aj))) (ρ:=[sF (.lst (cs.map aR)),some (row h ("root" : Str) [.str o,.int m,.int f,.str rl],false),sF (.str p),sF (.int day)]) (ds:=[.lst (cs.map aR),row h ("root" : Str) [.str o,.int m,.int f,.str rl],.int day]) rfl hb;rw[e']at hc ⊢;show RD (fA dM (fV 0 (fV 1 (fV 3 aj)))) EO (Bi (fI 2)) _=_;unfold RD;rw[show(List.map (λd=>some (d,false)) [D.lst (cs.map aR),row h ("root" : Str) [.str o,.int m,.int f,.str rl],.str p,.int day]++List.replicate 0 none:DL.Env)=[sF (.lst (cs.map aR)),some (row h ("root" : Str) [.str o,.int m,.int f,.str rl],false),sF (.str p),sF (.int day)]from rfl,hc];rfl
 ·unfold iM eB;rw[if_pos];rw[e'];exact⟨tY (Gf hd),tY (by simp)⟩
noncomputable def a7 (j:Nat):D->Str
 |.tup [_,.tup (_::aC)]=>match aC[j]? with
  |some (.str s)=>s
  |_=>("" : Str)
 |_=>("" : Str)
noncomputable def gF (j:Nat):D->Int
 |.tup [_,.tup (_::aC)]=>match aC[j]? with
  |some (.int s)=>s
  |_=>0
 |_=>0
theorem Cd.root_of (h:Cd ("root" : Str) r):∃o rl,∃m f:Int,r=[.str o,.int m,.int f,.str rl]:=by
 generalize hk:("root" : Str)=k at h;cases h with
 |root o rl m f=>exact⟨o,rl,m,f,rfl⟩
 |named=>exact cL hk
 |chosen=>exact cL hk
 |heir=>exact cL hk
 |three _ hh=>rcases hh with rfl|rfl|rfl<;>exact cL hk
 |other _ hh=>rcases hh with rfl|rfl|rfl|rfl|rfl<;>exact cL hk
theorem tZ {κ α:Type}[DecidableEq κ]{ks:List κ}{k:κ}{x y:α}:∀ {xs:List α},y∈dB ks xs k x->y=x∨y∈xs:=by
 intro xs h;unfold dB at h;split at h
 ·rename_i hk0;clear hk0;induction ks generalizing xs with
  |nil=>simp at h
  |cons a ks ih=>
   cases xs with
   |nil=>simp at h
   |cons b xs=>
    rw[List.zipWith_cons_cons,List.mem_cons]at h;rcases h with h|h
    ·split at h
     ·exact .inl h
     ·exact .inr (by rw[h];exact mX)
    ·rcases ih h with h|h
     ·exact .inl h
     ·exact .inr (mZ _ h)
 ·rcases List.mem_append.mp h with h|h
  ·exact .inr h
  ·exact .inl (uT h)
theorem ua:∀(l:List (cw×D))(a:List cw×List D)(y:D),y∈(l.foldl qg a).2->y∈a.2∨∃p∈l,p.2=y
 |[],a,y,h=>.inl h
 |p::l,a,y,h=>by
  rw[List.foldl_cons]at h;rcases ua l _ y h with h|⟨q,hq,e⟩
  ·rcases tZ (show y∈dB a.1 a.2 p.1 p.2 from h)with h|h
   ·exact .inr ⟨p,mX,h.symm⟩
   ·exact .inl h
  ·exact .inr ⟨q,mZ _ hq,e⟩
theorem uc {α:Type}(f:α->Str)(g:α->D):∀(l:List α),iT (l.map λx=>D.tup [.str (f x),g x])=some (l.map λx=>(.inr (f x),g x))
 |[]=>rfl
 |x::l=>by
  rw[uY,iT,uc f g l];rfl
theorem rm {κ:Type}[DecidableEq κ]:∀ {ks:List κ}{vs:List D}{k:κ}{v:D},cB ks vs k=some v->v∈vs
 |k'::ks,d::ds,k,v,h=>by
  unfold cB at h;split at h
  ·cases h;exact mX
  ·exact mZ _ (rm h)
 |[],_,_,_,h=>by simp[cB]at h
 |_::_,[],_,_,h=>by simp[cB]at h
noncomputable def mJ (KL:List (D×Nat)):List (cw×D):=(KL.filter λx=>bc x.1).map λx=>(.inr (a7 0 x.1),x.1)
def BY (KL:List (D×Nat))(o:Str):Option D:=cB (bT (mJ KL)).1 (bT (mJ KL)).2 (.inr o)
theorem rq (g:w4 r)(h:bc r=true):∃a o rl,∃m f:Int,r=row a ("root" : Str) [.str o,.int m,.int f,.str rl]:=by
 obtain⟨a,k,aC,rfl,d⟩:=g;have hk:k = "root":=of_decide_eq_true h;subst hk;obtain⟨o,rl,m,f,rfl⟩:=d.root_of;exact⟨a,o,rl,m,f,rfl⟩
theorem dq (g:gs ab)(hx:x∈ak ab aa):nU ab (x.2:Int)=some x.1/\w4 x.1:=⟨c6 (bq hx),g.2 _ (vL (bq hx))⟩
theorem yK (g:gs ab)(h:BY (ak ab aa) o=some v):∃a o2 rl,∃m f:Int,v=row a ("root" : Str) [.str o2,.int m,.int f,.str rl]:=by
 have hv:=rm h;rcases ua _ ([],[]) v hv with h|⟨p,hp,e⟩
 ·cases h
 ·obtain⟨x,hx,rfl⟩:=vO hp;obtain⟨h1,h2⟩:=vN hx;rw[←e];exact rq (dq g h1).2 h2
theorem rz (g:gs ab)(aa:Int):gb [.tup ab,.int aa]=sF (.dk (bT (mJ (ak ab aa))).1 (bT (mJ (ak ab aa))).2):=by
 have hl:=c7 ab aa;have DV:=g.1;have h1:=oi (fi:=cm (fA c9 (fV 0 (fV 1 aj)))) (nT:=1) (cap:=[0]) (tg:=dE 0) (fe:=f2 b7 (ai 1) (ai 0)) (ρ:=[sF (.tup ab),sF (.int aa),none]) (ak ab aa) (λx=>.int x.2) Prod.fst
  (by
   show(fA c9 (fV 0 (fV 1 aj)) _).bind _=_;rw[aL [.tup ab,.int aa] rfl (ky ab g.rp g.le aa)];rfl) (by omega) λx hx=>by
   have ha:=(dq g hx).1;exact⟨_,rfl,false,by simp[dG,ha]⟩
 have hn:bx ((ak ab aa).map Prod.fst)=true:=bL λd hd=>by
  obtain⟨x,hx,rfl⟩:=vO hd;exact(dq g hx).2.rp.flat
 have h2:=gE (fi:=cm (ai 2)) (nT:=1) (cap:=[]) (tg:=dE 0) (c:=bp (f2 eB (fA aJ (fV 0 aj)) (fS "root"))) (fe:=fA aY (af (fA au (fV 0 (af (fS "office") aj))) (fV 0 aj)))
  (ρ:=[sF (.tup ab),sF (.int aa),lT ((ak ab aa).map Prod.fst)]) (ak ab aa) Prod.fst (λx=>bc x.1) (λx=>.tup [.str (a7 0 x.1),x.1]) (by simp) (by omega) λx hx=>by
   have gr:=(dq g hx).2;refine⟨_,rfl,bM (a:=kindOf x.1) (bb:=false) (aL [x.1] rfl (iX gr)) rfl,λhp=>⟨false,?_⟩⟩;obtain⟨a,o,rl,m,f,e⟩:=rq gr hp;refine aL [.str (a7 0 x.1),x.1] (cj (aL [x.1,.str "office"] rfl ?_) rfl) (c8 _ (by simp));rw[e];exact k7
 refine aw rfl (cf (ds:=(ak ab aa).map Prod.fst) h1 hn (ay (aL [.lst (((ak ab aa).filter λx:D×Nat=>bc x.1).map λx:D×Nat=>D.tup [.str (a7 0 x.1),x.1])] (aF h2 rfl) ?_)));rw[j7,uc (λx:D×Nat=>a7 0 x.1) Prod.fst];rfl
def oQ:D×Nat->List (D×Nat)->D×Nat
 |b,[]=>b
 |b,x::r=>if ba (kA x) (kA b)=some true then oQ x r else oQ b r
theorem wC:∀(r:List (D×Nat))(b:D×Nat),lg (kA b,.int b.2) (r.map λx=>(kA x,D.int x.2))=.int (oQ b r).2
 |[],b=>rfl
 |x::r,b=>by
  rw[uY,lg,oQ];split
  ·exact wC r x
  ·exact wC r b
def iq (KL:List (D×Nat))(p:Str)(day:Int)(i:Nat):Bool:=match KL.filter (λx=>told dS p day x.1) with
 |[]=>false
 |b::r=>decide ((oQ b r).2=i)
theorem Gg (g:gs ab)(aa:Int)(hx:x∈ak ab aa)(e:x.1=row a ("death" : Str) [.int d,.str p]):fQ [.tup ab,.int aa,.int x.2]=sF (.bl (iq (ak ab aa) p d x.2)):=by
 have ha:=(dq g hx).1;have gx:=(dq g hx).2;have ht:=wx ab g.rp g.le aa dS jC p d;have z4:au [x.1,.str "person"]=sF (.str p):=by rw[e];exact bj (i:=1) cW rfl
 have wM:aO [x.1]=sF (.int d):=by rw[e];exact jm (.inl (by decide +kernel)) rfl
 have nR:x∈oP ab aa dS p d:=List.mem_filter.mpr ⟨hx,by rw[e];simp[told,row,dS,tX]⟩;have Y8:iq (ak ab aa) p d x.2=match oP ab aa dS p d with|[]=>false|b::r=>decide ((oQ b r).2=x.2):=rfl
 have key:∀y∈oP ab aa dS p d,∃h k dd,ab[y.2]? = some (row h k [.int dd,.str p])/\y.1=row h k [.int dd,.str p]/\cN k=true:=λy hy=>by
  obtain⟨hg,U0⟩:=BS hy;obtain⟨h,k,dd,e2,h3,_⟩:=qW jC (g.rp _ (vL hg)) U0;exact⟨h,k,dd,by rw[hg,e2],e2,h3⟩
 rw[Y8];cases hs:oP ab aa dS p d with
 |nil=>rw[hs]at nR;cases nR
 |cons b r=>
  rw[hs]at ht key;have hm:∀ρ:DL.Env,ρ[0]? = some (sF (.tup ab))->jf (pX [0] (fA eX (fV 1 (fV 0 aj))) ρ) ((b::r).map λy=>.int y.2)=some ((b::r).map λy=>.tup [.int (az y.1),.int y.2]):=λρ h0=>
   ie (b::r) λy hy=>by
    obtain⟨h,k,dd,hg,e2,h3⟩:=key y hy;show(fA eX _ _).map _=_;rw[aL [.tup ab,.int y.2] (by simp[dG,h0]) (BU hg h3),e2];rfl
  have hk:dz ((b::r).map λy=>D.tup [.int (az y.1),.int y.2])=some ((b::r).map kA):=gO _ λy _=>rfl;have hz:((b::r).map kA).zip ((b::r).map λy=>D.int y.2)=(kA b,D.int b.2)::r.map λy=>(kA y,D.int y.2):=by rw[List.zip_map'];rfl
  have zy:bx ((b::r).map λy=>D.int y.2)=true:=bL λd hd=>by obtain⟨y,_,rfl⟩:=vO hd;rfl
  refine aw rfl (ga x.1 (by simp[ha]) gx.rp.flat (cf (ds:=(b::r).map λy=>.int y.2) (aL [.tup ab,.int aa,.tup (dS.map .str),.str p,.int d] (cj rfl (cj rfl (cj (aL [.str "death"] rfl (c8 _ (by simp))) (aF (aL [x.1,.str "person"] rfl z4) (aF (aL [x.1] rfl wM) rfl))))) ht) zy (ay (bw (.int (oQ b r).2) (.int x.2) ?_ rfl ?_))))
  ·unfold tJ MX;show((some (D.lst ((b::r).map λy=>D.int y.2),false)).bind _)=_;rw[vJ];dsimp only;rw[hm _ rfl,vJ,hk,vJ,if_pos (wz _),hz];show some (lg _ _,false)=_;rw[wC]
  ·rw[BJ];congr 3;apply decide_eq_decide.mpr;omega
abbrev KL:=List (D×Nat)
noncomputable def r0 (K:KL)(p:Str)(day:Int):Bool:=(K.filter λx=>told dS p day x.1).isEmpty
def Qu (K:KL)(p:Str)(day:Int):Bool:=match Ld (K.filter λx=>told mF p day x.1) with
 |none=>true
 |some x=>decide (kindOf x.1 = "found")
def wD (K:KL)(r:D):Bool:=dQ (kindOf r) && (r0 K (cQ r) (az r) && Qu K (cQ r) (az r))
def Gh (r:D):Str:=if kindOf r = "named" then a7 1 r else a7 2 r
noncomputable def wE:List Str:=[("named" : Str),"chosen","heir"]
def cI (K:KL)(so:List Cl)(x:D×Nat):Bool :=
 if kindOf x.1 = "death" then iq K (a7 1 x.1) (az x.1) x.2
 else if kindOf x.1∈wE then match BY K (Gh x.1) with
  |none=>false
  |some v=>if kindOf x.1 = "named" then true else wD K x.1 && iM so (a7 0 v) (a7 3 v) (a7 1 x.1) (az x.1)
 else false
theorem Ji (ab:List D)(aa:Int)(p:Str)(day:Int):nF ab aa p day=r0 (ak ab aa) p day:=rfl
theorem Jj (h:aS r<=aa):ig ab aa r=wD (ak ab aa) r:=by
 unfold ig wD;rw[decide_eq_true h,Bool.true_and];rfl
theorem D4 (g:gs ab)(aa:Int)(so:List Cl)(uw:so.length<=60)(hx:x∈ak ab aa)(OL:bc x.1=false):m9 [.tup ab,.int aa,.lst (so.map aR),.int x.2]=sF (.bl (cI (ak ab aa) so x)):=by
 obtain⟨ha,gx⟩:=dq g hx;have hh:aS x.1<=aa:=of_decide_eq_true (vN hx).2;have hf:bu x.1=true:=gx.rp.flat;have hw:∀ρ:DL.Env,ρ[4]? = some (some (x.1,false))->fA aJ (fV 4 aj) ρ=sF (.str (kindOf x.1)):=λρ h4=>aL [x.1] (by simp[h4]) (iX gx);have Si:∀ρ:DL.Env,ρ[4]? = some (some (x.1,false))->bp (f2 gV (fA aJ (fV 4 aj)) (fA aY (af (fS "named") (af (fS "chosen") (af (fS "heir") aj))))) ρ=some (!decide (kindOf x.1∈wE)):=λρ h4=>
  cY (bw (.str (kindOf x.1)) (.tup (wE.map .str)) (hw ρ h4) (by simp[sizeLine,wE]) (o5 _ _))
 by_cases hd:kindOf x.1 = "death"
 ·obtain⟨a,k,aC,e,d⟩:=gx;have hk:k = "death":=by rw[e]at hd;exact hd
  subst hk;obtain⟨dd,p,rfl⟩:=d.deed.three (by decide +kernel);have hc:cI (ak ab aa) so x=iq (ak ab aa) p dd x.2:=by
   unfold cI;rw[if_pos hd,e];rfl
  rw[hc];exact aw rfl (ga x.1 (by simp[ha]) hf (bB (bM (bb:=false) (hw _ rfl) (decide_eq_true hd)) (ay (aL [.tup ab,.int aa,.int x.2] rfl (Gg g aa hx e)))))
 ·by_cases h3:kindOf x.1∈wE
  ·have Oa:au [x.1,.str "office"]=sF (.str (Gh x.1)):=by
    obtain⟨a,k,aC,e,d⟩:=gx;rw[e]at h3 hd OL ⊢;replace h3:k∈wE:=h3;clear hd OL;cases d with
    |root=>exact cL h3
    |named d o p=>exact bj (i:=1) cW rfl
    |chosen d b o p s=>exact bj (i:=2) cW rfl
    |heir d b o p=>exact bj (i:=2) cW rfl
    |three _ hk=>rcases hk with rfl|rfl|rfl<;>exact cL h3
    |other _ hk=>rcases hk with rfl|rfl|rfl|rfl|rfl<;>exact cL h3
   have e5:∀ρ:DL.Env,ρ[0]? = some (sF (.tup ab))->ρ[1]? = some (sF (.int aa))->ρ[4]? = some (some (x.1,false))->f2 F6 (fA gb (fV 0 (fV 1 aj))) (fA au (fV 4 (af (fS "office") aj))) ρ=some ((BY (ak ab aa) (Gh x.1)).getD .non,false):=λρ q0 q1 q4=>
    bw (.dk (bT (mJ (ak ab aa))).1 (bT (mJ (ak ab aa))).2) (.str (Gh x.1)) (aL [.tup ab,.int aa] (by simp[q0,q1]) (rz g aa)) (aL [x.1,.str "office"] (by simp[q4]) Oa) rfl
   cases hr:BY (ak ab aa) (Gh x.1) with
   |none=>
    rw[hr]at e5;have hc:cI (ak ab aa) so x=false:=by unfold cI;rw[if_neg hd,if_pos h3,hr]
    rw[hc];exact aw rfl (ga x.1 (by simp[ha]) hf (aA (bM (bb:=false) (hw _ rfl) (decide_eq_false hd)) (aA (by rw[Si _ rfl,decide_eq_true h3];rfl) (ga .non (e5 _ rfl rfl rfl) rfl (bB (cY (bw .non .non rfl rfl (by simp))) (ay rfl))))))
   |some v=>
    rw[hr]at e5;obtain⟨va,vo,Z0,vm,vf,ev⟩:=yK g hr;have Wi:bu v=true:=by rw[ev];rfl
    have Wj:Ef v .non=sF (.bl false):=by rw[ev];simp[row]
    by_cases hn:kindOf x.1 = "named"
    ·have hc:cI (ak ab aa) so x=true:=by unfold cI;rw[if_neg hd,if_pos h3,hr];dsimp only;rw[if_pos hn]
     rw[hc];exact aw rfl (ga x.1 (by simp[ha]) hf (aA (bM (bb:=false) (hw _ rfl) (decide_eq_false hd)) (aA (by rw[Si _ rfl,decide_eq_true h3];rfl) (ga v (e5 _ rfl rfl rfl) Wi (aA (cY (bw v .non rfl rfl Wj)) (bB (bM (bb:=false) (hw _ rfl) (decide_eq_true hn)) (ay rfl)))))))
    ·have hc:cI (ak ab aa) so x=(wD (ak ab aa) x.1 && iM so (a7 0 v) (a7 3 v) (a7 1 x.1) (az x.1)):=by unfold cI;rw[if_neg hd,if_pos h3,hr];dsimp only;rw[if_neg hn]
     have Wk:au [x.1,.str "by"]=sF (.str (a7 1 x.1))/\aO [x.1]=sF (.int (az x.1)):=by
      refine⟨?_,by rw[qZ gx];unfold sr;rw[OL];rfl⟩;obtain⟨a,k,aC,e,d⟩:=gx;rw[e]at h3 hn ⊢;replace h3:k∈wE:=h3;cases d with
      |root=>exact cL h3
      |named=>exact absurd rfl hn
      |chosen d b o p s=>exact bj (i:=1) cW rfl
      |heir d b o p=>exact bj (i:=1) cW rfl
      |three _ hk=>rcases hk with rfl|rfl|rfl<;>exact cL h3
      |other _ hk=>rcases hk with rfl|rfl|rfl|rfl|rfl<;>exact cL h3
     have hs:=qY ab g.rp g.le aa (bq hx);rw[Jj hh]at hs;have GZ:cH [.lst (so.map aR),v,.str (a7 1 x.1),.int (az x.1)]=sF (.bl (iM so (a7 0 v) (a7 3 v) (a7 1 x.1) (az x.1))):=by
      rw[ev];exact wB so uw _ _
     rw[hc];refine aw rfl (ga x.1 (by simp[ha]) hf (aA (bM (bb:=false) (hw _ rfl) (decide_eq_false hd)) (aA (by rw[Si _ rfl,decide_eq_true h3];rfl) (ga v (e5 _ rfl rfl rfl) Wi (aA (cY (bw v .non rfl rfl Wj)) (aA (bM (bb:=false) (hw _ rfl) (decide_eq_false hn)) (ay ?_)))))));exact dJ (b1:=false) (aL [.tup ab,.int aa,.int x.2] rfl hs) λ_=>aL [.lst (so.map aR),v,.str (a7 1 x.1),.int (az x.1)] (cj rfl (cj rfl (aF (aL [x.1,.str "by"] rfl Wk.1) (aF (aL [x.1] rfl Wk.2) rfl)))) GZ
  ·have hc:cI (ak ab aa) so x=false:=by unfold cI;rw[if_neg hd,if_neg h3]
   rw[hc];exact aw rfl (ga x.1 (by simp[ha]) hf (aA (bM (bb:=false) (hw _ rfl) (decide_eq_false hd)) (bB (by rw[Si _ rfl,decide_eq_false h3];rfl) (ay rfl))))
def fU (cX:List Str)(p:Str)(day:Int)(c:Cl):List Cl :=
 if(!decide (c.o∈cX) || (!decide (c.p=p) || !(ij c day || decide (day<c.s))))=true then [c]else if c.s<day then [⟨c.o,p,c.s,some day,c.n⟩]else []
noncomputable def bV (so:List Cl)(cX:List Str)(p:Str)(day:Int):List Cl:=so.flatMap (fU cX p day)
theorem fW (cX:List Str)(p:Str)(day:Int):∀so:List Cl,(bV so cX p day).length<=so.length
 |[]=>vT _
 |c::so=>by
  unfold bV;rw[uO,uZ,vE];have h1:=fW cX p day so;have h2:(fU cX p day c).length<=1:=by
   unfold fU;split
   ·simp
   ·split<;>simp
  unfold bV at h1;omega
theorem AD (k:Str)(ws:List Str):gV (.str k) (.lst (ws.map .str))=sF (.bl (!decide (k∈ws))):=by
 simp only[gV,gU,vJ,qU];rw[if_pos ⟨rfl,nD ws⟩]
theorem yL (so:List Cl)(uw:so.length<=60)(cX:List Str)(p:Str)(day:Int):p0 [.lst (so.map aR),.lst (cX.map .str),.str p,.int day]=lT ((bV so cX p day).map aR):=by
 obtain⟨ρ',e,v5,rfl⟩:=gk (tg:=dE 5) (g:=qF) (λj ρ=>∃v5:OB,ρ=[sF (.lst (so.map aR)),sF (.lst (cX.map .str)),sF (.str p),sF (.int day),lT ((bV (so.take j) cX p day).map aR),v5]) (so.map aR)
  [sF (.lst (so.map aR)),sF (.lst (cX.map .str)),sF (.str p),sF (.int day),lT [],none] ⟨none,rfl⟩ (by
   rintro j d ρ hd ⟨v5,rfl⟩;rw[vA]at hd;obtain⟨c,hc,rfl⟩:=oY hd;have hj:j<so.length:=(vV hc).1;have et:bV (so.take (j+1)) cX p day=bV (so.take j) cX p day++fU cX p day c:=by
    unfold bV;rw[List.take_add_one,hc,Option.toList_some,List.flatMap_append,uO,List.flatMap_nil,uQ]
   have bF:(bV (so.take j) cX p day).length<=60:=vR (fW cX p day _) (by rw[List.length_take];omega);let ρ1:DL.Env:=[sF (.lst (so.map aR)),sF (.lst (cX.map .str)),sF (.str p),sF (.int day),lT ((bV (so.take j) cX p day).map aR),some (aR c,false)];have q0:du 5 0 ρ1=sF (.str c.o):=bw (aR c) (.int 0) rfl rfl (Qs c);have q1:du 5 1 ρ1=sF (.str c.p):=bw (aR c) (.int 1) rfl rfl (O2 c);have q2:du 5 2 ρ1=sF (.int c.s):=bw (aR c) (.int 2) rfl rfl (RL c);have q4:du 5 4 ρ1=sF (.int c.n):=bw (aR c) (.int 4) rfl rfl (RM c);have ju:jN (bp (f2 gV (du 5 0) (ai 1))) (jN (bp (f2 Af (du 5 1) (ai 2))) (fj (jN (bp (fA cK (fV 5 (fV 3 aj)))) (bp (f2 Hf (du 5 2) (ai 3)))))) ρ1=some (!decide (c.o∈cX) || (!decide (c.p=p) || !(ij c day || decide (day<c.s)))) :=
    de (cY (bw (.str c.o) (.lst (cX.map .str)) q0 rfl (AD _ _))) λ_=>de (cY (bw (.str c.p) (.str p) q1 rfl (by simp))) λ_=>cu (de (cY (aL [aR c,.int day] rfl (ra c day))) λ_=>cY (bw (.int c.s) (.int day) q2 rfl (by simp)))
   by_cases h1:(!decide (c.o∈cX) || (!decide (c.p=p) || !(ij c day || decide (day<c.s))))=true
   ·have eo:fU cX p day c=[c]:=by unfold fU;rw[if_pos h1]
    rw[h1]at ju;refine⟨_,_,rfl,.inl (kW ju (j8 (ds:=(bV (so.take j) cX p day).map aR) (d:=aR c) (b:=false) rfl rfl (mG c) (bK (by simp;omega)))),some (aR c,false),?_⟩;rw[et,eo,uW];rfl
   ·rw[Bool.not_eq_true]at h1;rw[h1]at ju;by_cases h2:c.s<day
    ·have eo:fU cX p day c=[⟨c.o,p,c.s,some day,c.n⟩]:=by unfold fU;rw[if_neg (by rw[h1];decide),if_pos h2]
     refine⟨_,_,rfl,.inl (m5 ju (kW (cY (bw (.int c.s) (.int day) q2 rfl (by simp[h2]))) (j8 (ds:=(bV (so.take j) cX p day).map aR) (d:=aR ⟨c.o,p,c.s,some day,c.n⟩) (b:=false) rfl (aL [.str c.o,.str p,.int c.s,.int day,.int c.n] (aF q0 (cj rfl (aF q2 (cj rfl (aF q4 rfl))))) (c8 _ (by simp))) (mG _) (bK (by simp;omega))))),some (aR c,false),?_⟩;rw[et,eo,uW];rfl
    ·have eo:fU cX p day c=[]:=by unfold fU;rw[if_neg (by rw[h1];decide),if_neg h2]
     refine⟨_,_,rfl,.inl (m5 ju (m5 (cY (bw (.int c.s) (.int day) q2 rfl (by simp;omega))) rfl)),some (aR c,false),?_⟩;rw[et,eo,uQ];rfl)
 have e':iC (dE 5) qF (so.map aR) [sF (.lst (so.map aR)),sF (.lst (cX.map .str)),sF (.str p),sF (.int day),lT [],none]=some (.nx [sF (.lst (so.map aR)),sF (.lst (cX.map .str)),sF (.str p),sF (.int day),lT ((bV so cX p day).map aR),v5]):=by
  rw[e];have:so.take (so.map aR).length=so:=by rw[vI,List.take_length]
  rw[this]
 exact aw rfl (cf (ds:=[]) (by simp[sizeLine]) rfl (dC (kI (ds:=so.map aR) (by simp[lW]) e') (pw rfl)))
theorem Lf (ho:au [r,.str "office"]=sF (.str o))(hp:au [r,.str "person"]=sF (.str p))(s:Int)(n:Nat):gn [r,.int s,.int n]=some (aR ⟨o,p,s,none,n⟩,false) :=
 aw rfl (ay (aL [.str o,.str p,.int s,.non,.int n] (aF (aL [r,.str "office"] rfl ho) (aF (aL [r,.str "person"] rfl hp) rfl)) (c8 _ (by simp))))
theorem D5 (so:List Cl)(uw:so.length<=60)(n:Nat):hW [.lst (so.map aR),row a ("chosen" : Str) [.int d,.str b,.str o,.str p,.int s],.int n]=lT ((bV so [o] b s++[(⟨o,p,s,none,n⟩:Cl)]).map aR):=by
 let r:D:=row a ("chosen" : Str) [.int d,.str b,.str o,.str p,.int s];have ho:au [r,.str "office"]=sF (.str o):=bj (i:=2) cW rfl;have hp:au [r,.str "person"]=sF (.str p):=bj (i:=3) cW rfl;have hb:au [r,.str "by"]=sF (.str b):=bj (i:=1) cW rfl;have hs:au [r,.str "since"]=sF (.int s):=bj (i:=4) cW rfl;have hl:=fW [o] b s so;refine aw rfl (ga (.int s) (aL [r,.str "since"] rfl hs) rfl (cf (ds:=(bV so [o] b s).map aR) (aL [.lst (so.map aR),.lst ([o].map .str),.str b,.int s] (cj rfl (aF (b:=true) (aL [.str o] (aF (aL [r,.str "office"] rfl ho) rfl) (g9 _ (by simp))) (aF (aL [r,.str "by"] rfl hb) rfl))) (yL so uw [o] b s)) (jo _) (ay ?_)));refine iD (x:=.lst ((bV so [o] b s).map aR)) (y:=.lst [aR ⟨o,p,s,none,n⟩]) (b1:=false) (b2:=true) rfl (aL [aR ⟨o,p,s,none,n⟩] (aF (aL [r,.int s,.int n] rfl (Lf ho hp s n)) rfl) (g9 _ (by simp))) ?_;rw[uW];exact if_pos (dm (by rw[vI,List.length_singleton];omega))
noncomputable def yM (hk:List (List cw))(hv:List D)(o p:Str):Option Str:=match cB hk hv [.inr o,.inr p] with
 |some (.str h)=>some h
 |_=>none
def dU (K:KL)(hk:List (List cw))(hv:List D)(p:Str)(day:Int)(n:Nat)(o:Str):List Cl:=match yM hk hv o p with
 |some h=>if r0 K h day=true then [⟨o,h,day,none,n⟩]else []
 |none=>[]
def dh (so:List Cl)(p:Str)(day:Int):List Str:=jZ (fH ((so.filter λc=>decide (c.p=p) && ij c day).map (·.o)))
def r6 (K:KL)(so:List Cl)(hk:List (List cw))(hv:List D)(p:Str)(day:Int)(n:Nat):List Cl:=(dh so p day).flatMap (dU K hk hv p day n)
theorem lL (K:KL)(hk:List (List cw))(hv:List D)(p:Str)(day:Int)(n:Nat)(o:Str):(dU K hk hv p day n o).length<=1:=by
 unfold dU;split
 ·split<;>simp
 ·simp
theorem rA {α β:Type}(f:α->List β)(h:∀a,(f a).length<=1):∀l:List α,(l.flatMap f).length<=l.length
 |[]=>vT _
 |a::l=>by
  rw[uO,uZ,vE];have:=h a;have:=rA f h l;omega
theorem yN (so:List Cl)(p:Str)(day:Int):(dh so p day).length<=so.length:=by
 unfold dh;rw[(fN _).length_eq];refine vR (ml _) ?_;rw[vI];exact vM _ _
theorem wF (g:gs ab)(aa:Int)(so:List Cl)(uw:so.length<=60)(hk:List (List cw))(hv:List D)(U1:∀v∈hv,∃s,v=.str s)(hx:x∈ak ab aa)(e:x.1=row a ("death" : Str) [.int d,.str p]):
  kn [.tup ab,.int aa,.lst (so.map aR),.dt hk hv,.int x.2]=lT ((r6 (ak ab aa) so hk hv p d x.2).map aR):=by
 have ha:=(dq g hx).1;have z4:au [x.1,.str "person"]=sF (.str p):=by rw[e];exact bj (i:=1) cW rfl
 have wM:aO [x.1]=sF (.int d):=by rw[e];exact jm (.inl (by decide +kernel)) rfl
 have Wl:=yN so p d;have Rn:∀(o:Str)(l:List Cl)(v9:OB),l.length<=60->gJ [sF (.tup ab),sF (.int aa),sF (.lst (so.map aR)),sF (.dt hk hv),sF (.int x.2),sF (.str p),sF (.int d),lT (l.map aR),sF (.str o),v9]=some (.nx [sF (.tup ab),sF (.int aa),sF (.lst (so.map aR)),sF (.dt hk hv),sF (.int x.2),sF (.str p),sF (.int d),lT ((l++dU (ak ab aa) hk hv p d x.2 o).map aR),sF (.str o),some ((cB hk hv [.inr o,.inr p]).getD .non,false)]):=λo l v9 hl=>by
  have eg:FI (ai 3) (fV 8 (fV 5 aj)) [sF (.tup ab),sF (.int aa),sF (.lst (so.map aR)),sF (.dt hk hv),sF (.int x.2),sF (.str p),sF (.int d),lT (l.map aR),sF (.str o),v9]=some ((cB hk hv [.inr o,.inr p]).getD .non,false):=by
   simp[iH,sizeLine]
  cases hlk:cB hk hv [.inr o,.inr p] with
  |none=>
   rw[hlk]at eg;have ei:dU (ak ab aa) hk hv p d x.2 o=[]:=by unfold dU yM;rw[hlk]
   rw[ei,uQ];exact ga .non eg rfl (m5 (dD (p:=false) (q:=false) (cY (by simp)) (by simp)) rfl)
  |some v=>
   obtain⟨h,rfl⟩:=U1 v (rm hlk);rw[hlk]at eg;have Ro:=yH ab g.rp g.le aa h d;rw[Ji]at Ro;have Rp:∀ρ:DL.Env,ρ[0]? = some (sF (.tup ab))->ρ[1]? = some (sF (.int aa))->ρ[6]? = some (sF (.int d))->ρ[9]? = some (sF (.str h))->dj (bp (f2 lz (ai 9) (fC .non))) (bp (fA m7 (fV 0 (fV 1 (fV 9 (fV 6 aj)))))) ρ=some (true && r0 (ak ab aa) h d):=λρ q0 q1 q6 q9=>
    dD (cY (by simp[q9])) λ_=>cY (aL [.tup ab,.int aa,.str h,.int d] (by simp[q0,q1,q6,q9]) Ro)
   cases DV:r0 (ak ab aa) h d with
   |false=>
    have ei:dU (ak ab aa) hk hv p d x.2 o=[]:=by unfold dU yM;rw[hlk];dsimp only;rw[DV];rfl
    rw[ei,uQ];exact ga (.str h) eg rfl (m5 (by rw[Rp _ rfl rfl rfl rfl,DV];rfl) rfl)
   |true=>
    have ei:dU (ak ab aa) hk hv p d x.2 o=[⟨o,h,d,none,x.2⟩]:=by unfold dU yM;rw[hlk];dsimp only;rw[DV];rfl
    rw[ei,uW];exact ga (.str h) eg rfl (kW (by rw[Rp _ rfl rfl rfl rfl,DV];rfl) (j8 (ds:=l.map aR) (d:=aR ⟨o,h,d,none,x.2⟩) (b:=false) rfl (aL [.str o,.str h,.int d,.non,.int x.2] rfl (c8 _ (by simp))) rfl (bK (by simp;omega))))
 obtain⟨ρ',el,v8,v9,rfl⟩:=gk (tg:=dE 8) (g:=gJ) (λj ρ=>∃v8 v9:OB,ρ=[sF (.tup ab),sF (.int aa),sF (.lst (so.map aR)),sF (.dt hk hv),sF (.int x.2),sF (.str p),sF (.int d),lT ((((dh so p d).take j).flatMap (dU (ak ab aa) hk hv p d x.2)).map aR),v8,v9]) ((dh so p d).map .str)
  [sF (.tup ab),sF (.int aa),sF (.lst (so.map aR)),sF (.dt hk hv),sF (.int x.2),sF (.str p),sF (.int d),lT [],none,none] ⟨none,none,rfl⟩ (by
   rintro j dd ρ hd ⟨v8,v9,rfl⟩;rw[vA]at hd;obtain⟨o,ho,rfl⟩:=oY hd;have hl:(((dh so p d).take j).flatMap (dU (ak ab aa) hk hv p d x.2)).length<=60:=vR (rA _ (lL _ _ _ _ _ _) _) (by rw[List.length_take];omega);refine⟨_,_,rfl,.inl (Rn o _ v9 hl),sF (.str o),some ((cB hk hv [.inr o,.inr p]).getD .non,false),?_⟩;rw[List.take_add_one,ho,Option.toList_some,List.flatMap_append,uO,List.flatMap_nil,uQ])
 have e':iC (dE 8) gJ ((dh so p d).map .str) [sF (.tup ab),sF (.int aa),sF (.lst (so.map aR)),sF (.dt hk hv),sF (.int x.2),sF (.str p),sF (.int d),lT [],none,none]=some (.nx [sF (.tup ab),sF (.int aa),sF (.lst (so.map aR)),sF (.dt hk hv),sF (.int x.2),sF (.str p),sF (.int d),lT ((r6 (ak ab aa) so hk hv p d x.2).map aR),v8,v9]):=by
  rw[el];have:(dh so p d).take ((dh so p d).map D.str).length=dh so p d:=by rw[vI,List.take_length]
  rw[this];rfl
 have Kd:∀ρ:DL.Env,ρ[2]? = some (sF (.lst (so.map aR)))->ρ[5]? = some (sF (.str p))->ρ[6]? = some (sF (.int d))->cm (f1 gY (bO (cm (ai 2)) 1 [5,6] (dE 0) (dj (bp (f2 eB (du 0 1) (ai 1))) (bp (fA cK (fV 0 (fV 2 aj))))) (du 0 0))) ρ=some ((dh so p d).map .str):=λρ q2 q5 q6=>by
  have hc:=gE (fi:=cm (ai 2)) (nT:=1) (cap:=[5,6]) (tg:=dE 0) (c:=dj (bp (f2 eB (du 0 1) (ai 1))) (bp (fA cK (fV 0 (fV 2 aj))))) (fe:=du 0 0) (ρ:=ρ) so aR (λc=>decide (c.p=p) && ij c d) (λc=>.str c.o) (by simp[q2]) (by omega) λc hc=>
   ⟨_,rfl,dD (cY (bw (.str c.p) (.str p) (bw (aR c) (.int 1) (by simp[dG]) rfl (O2 c)) (by simp[dG,q5]) (by simp))) λ_=>cY (aL [aR c,.int d] (by simp[dG,q6]) (ra c d)),λ_=>⟨false,bw (aR c) (.int 0) (by simp[dG]) rfl (Qs c)⟩⟩
  have e2:(so.filter λc=>decide (c.p=p) && ij c d).map (λc=>D.str c.o)=((so.filter λc=>decide (c.p=p) && ij c d).map (·.o)).map .str:=by rw[uP];rfl
  rw[e2]at hc;show(f1 gY _ ρ).bind _=_;unfold f1;rw[hc,vJ];have Y9:((so.filter λc=>decide (c.p=p) && ij c d).map (·.o)).length<64:=by rw[vI];exact Nat.lt_of_le_of_lt (vM _ _) (by omega)
  show((gB _).bind _).bind _=_;rw[rj,vJ,if_pos Y9];rfl
 refine aw rfl (ga (.str p) (aL [x.1,.str "person"] (by simp[ha]) z4) rfl (ga (.int d) (aL [x.1] (by simp[ha]) wM) rfl (cf (ds:=[]) (by simp[sizeLine]) rfl (dC (ρ':=[sF (.tup ab),sF (.int aa),sF (.lst (so.map aR)),sF (.dt hk hv),sF (.int x.2),sF (.str p),sF (.int d),lT ((r6 (ak ab aa) so hk hv p d x.2).map aR),v8,v9]) ?_ (pw rfl)))));exact kI (ρ:=[sF (.tup ab),sF (.int aa),sF (.lst (so.map aR)),sF (.dt hk hv),sF (.int x.2),sF (.str p),sF (.int d),lT [],none,none]) (Kd _ rfl rfl rfl) e'
theorem Gi (g:gs ab)(aa:Int)(so:List Cl)(uw:so.length<=60)(hk:List (List cw))(hv:List D)(U1:∀v∈hv,∃s,v=.str s)(hx:x∈ak ab aa)(e:x.1=row a ("death" : Str) [.int d,.str p]):
  iU [.tup ab,.int aa,.lst (so.map aR),.dt hk hv,.int x.2]=lT ((bV so (so.map Cl.o) p d++r6 (ak ab aa) so hk hv p d x.2).map aR):=by
 have ha:=(dq g hx).1;have z4:au [x.1,.str "person"]=sF (.str p):=by rw[e];exact bj (i:=1) cW rfl
 have wM:aO [x.1]=sF (.int d):=by rw[e];exact jm (.inl (by decide +kernel)) rfl
 have h1:=oi (fi:=cm (ai 2)) (nT:=1) (cap:=[]) (tg:=dE 0) (fe:=du 0 0) (ρ:=[sF (.tup ab),sF (.int aa),sF (.lst (so.map aR)),sF (.dt hk hv),sF (.int x.2),none,none]) so aR (λc=>.str c.o) (by simp) (by omega) λc hc=>⟨_,rfl,false,bw (aR c) (.int 0) (by simp[dG]) rfl (Qs c)⟩;have e2:so.map (λc=>D.str c.o)=(so.map Cl.o).map .str:=by rw[uP];rfl
 rw[e2]at h1;have JZ:=fW (so.map Cl.o) p d so;have DV:(r6 (ak ab aa) so hk hv p d x.2).length<=60:=vR (rA _ (lL _ _ _ _ _ _) _) (vR (yN so p d) uw);refine aw rfl (cf (ds:=(so.map Cl.o).map .str) h1 (dR _) (cf (ds:=(bV so (so.map Cl.o) p d).map aR) (aL [.lst (so.map aR),.lst ((so.map Cl.o).map .str),.str p,.int d] (cj rfl (cj rfl (cj (aL [x.1,.str "person"] (by simp[ha]) z4) (cj (aL [x.1] (by simp[ha]) wM) rfl)))) (yL so uw _ p d)) (jo _) (ay ?_)));refine iD (x:=.lst ((bV so (so.map Cl.o) p d).map aR)) (y:=.lst ((r6 (ak ab aa) so hk hv p d x.2).map aR)) (b1:=false) (b2:=true) rfl (aL [.tup ab,.int aa,.lst (so.map aR),.dt hk hv,.int x.2] rfl (wF g aa so uw hk hv U1 hx e)) ?_;rw[uW];exact if_pos (dm (by rw[vI,vI];omega))
abbrev O4:=List Cl×List (List cw)×List D
def eK (K:KL)(st:O4)(x:D×Nat):O4 :=
 if cI K st.1 x=true then
  if kindOf x.1 = "named" then (st.1++[⟨a7 1 x.1,a7 2 x.1,az x.1,none,x.2⟩],st.2)
  else if kindOf x.1 = "chosen" then (bV st.1 [a7 2 x.1] (a7 1 x.1) (gF 4 x.1)++[⟨a7 2 x.1,a7 3 x.1,gF 4 x.1,none,x.2⟩],st.2)
  else if kindOf x.1 = "heir" then (st.1,dA st.2.1 [.inr (a7 2 x.1),.inr (a7 1 x.1)],dB st.2.1 st.2.2 [.inr (a7 2 x.1),.inr (a7 1 x.1)] (.str (a7 3 x.1)))
  else (bV st.1 (st.1.map Cl.o) (a7 1 x.1) (az x.1)++r6 K st.1 st.2.1 st.2.2 (a7 1 x.1) (az x.1) x.2,st.2)
 else st
def cJ (K:KL):KL:=eC (λx=>cD (kA x)) (K.filter λx=>!bc x.1)
noncomputable def mK (K:KL)(l:KL):O4:=l.foldl (eK K) ([],[],[])
noncomputable def kC (c:Cl):List At:=[.s c.o,.i c.s,.i c.n]
def br (K:KL):List Cl:=eC (λc=>cD (kC c)) (mK K (cJ K)).1
noncomputable def AE:List cw->Str
 |[_,.inr p]=>p
 |_=>("" : Str)
noncomputable def Jk (dd:List Str)(ks:List (List cw)):Nat:=(ks.filter λk=>decide (AE k∉dd)).length
structure z5 (K l:KL)(dd:List Str)(st:O4):Prop where
 len:st.1.length+Jk dd st.2.1<=l.length
 ded:∀q∈dd,∃y∈l,iq K q (az y.1) y.2=true
 nod:(st.1.map λc=>(c.o,c.n)).Nodup
 num:∀c∈st.1,c.n∈l.map (·.2)
 hs:∀v∈st.2.2,∃s,v=D.str s
 hk:st.2.1.length<=l.length
theorem BZ (h:told ws p d r=true):az r<=d/\∀d',az r<=d'->told ws p d' r=true:=by
 unfold told at h;split at h
 ·rename_i k aC;rw[vC]at h;obtain⟨h1,h2⟩:=h;unfold tX at h2;split at h2
  ·rename_i dd q;rw[vC]at h2;refine⟨of_decide_eq_true h2.2,λd' hd=>?_⟩;unfold told;rw[vC];refine⟨h1,?_⟩;unfold tX;rw[vC];exact⟨h2.1,decide_eq_true hd⟩
  ·cases h2
 ·cases h
theorem rB:∀(r:KL)(b:D×Nat),oQ b r∈b::r/\∀y∈b::r,fK y (oQ b r)=false
 |[],b=>⟨by simp[oQ],λy hy=>by rw[uT hy];simp[oQ,fK]⟩
 |x::r,b=>by
  rw[oQ,wy];by_cases h:fK x b=true
  ·rw[if_pos (by rw[h])];obtain⟨h1,h2⟩:=rB r x;refine⟨mZ _ h1,λy hy=>?_⟩;rcases vP hy with rfl|hy
   ·have:=h2 x mX;unfold fK at *;simp at *;omega
   ·exact h2 y hy
  ·rw[if_neg (by simpa using h)];obtain⟨h1,h2⟩:=rB r b;refine⟨?_,λy hy=>?_⟩
   ·rcases vP h1 with e|e
    ·rw[e];exact mX
    ·exact mZ _ (mZ _ e)
   ·rcases vP hy with rfl|hy
    ·exact h2 _ mX
    ·rcases vP hy with rfl|hy
     ·have:=h2 b mX;unfold fK at *;simp at *;omega
     ·exact h2 y (mZ _ hy)
theorem rC (h:iq K p d i=true):∃m∈K,told dS p d m.1=true/\m.2=i/\∀y∈K,told dS p d y.1=true->fK y m=false:=by
 unfold iq at h;split at h
 ·cases h
 ·rename_i b r e;obtain⟨h1,h2⟩:=rB r b;rw[←e]at h1 h2;obtain⟨h3,h4⟩:=vN h1;exact⟨_,h3,h4,of_decide_eq_true h,λy hy ht=>h2 y (List.mem_filter.mpr ⟨hy,ht⟩)⟩
theorem AF (h1:iq K p d1 i1=true)(h2:iq K p d2 i2=true):i1=i2:=by
 obtain⟨m1,k1,t1,e1,q1⟩:=rC h1;obtain⟨m2,k2,t2,e2,q2⟩:=rC h2;have a1:=BZ t1;have a2:=BZ t2;by_cases hd:d1<=d2
 ·have z1:=q2 m1 k1 (a1.2 d2 (by omega));have hm:az m2.1<=az m1.1:=by unfold fK at z1;simp at z1;omega
  have z2:=q1 m2 k2 (a2.2 d1 (by omega));unfold fK at z1 z2;simp at z1 z2;omega
 ·have z1:=q1 m2 k2 (a2.2 d1 (by omega));have hm:az m1.1<=az m2.1:=by unfold fK at z1;simp at z1;omega
  have z2:=q2 m1 k1 (a1.2 d2 (by omega));unfold fK at z1 z2;simp at z1 z2;omega
theorem yO {κ:Type}[DecidableEq κ]:∀ {ks:List κ}{vs:List D}{k:κ}{v:D},cB ks vs k=some v->k∈ks
 |k'::ks,d::ds,k,v,h=>by
  unfold cB at h;split at h
  ·rename_i e;rw[←e];exact mX
  ·exact mZ _ (yO h)
 |[],_,_,_,h=>by simp[cB]at h
 |_::_,[],_,_,h=>by simp[cB]at h
theorem rE (p:Str)(dd:List Str)(hp:p∉dd):∀ks:List (List cw),Jk dd ks=Jk (p::dd) ks+(ks.filter λk=>decide (AE k=p)).length
 |[]=>rfl
 |k::ks=>by
  have ih:=rE p dd hp ks;unfold Jk at ih ⊢;by_cases e:AE k=p
  ·rw[List.filter_cons_of_pos (by simpa [e]using hp),List.filter_cons_of_neg (by simp[e]),List.filter_cons_of_pos (by simp[e]),vE,vE];omega
  ·by_cases h:AE k∈dd
   ·rw[List.filter_cons_of_neg (by simp[h]),List.filter_cons_of_neg (by simp[h]),List.filter_cons_of_neg (by simp[e])];exact ih
   ·rw[List.filter_cons_of_pos (by simp[h]),List.filter_cons_of_pos (by simp[h,e]),List.filter_cons_of_neg (by simp[e]),vE,vE];omega
theorem kL (cX:List Str)(p:Str)(day:Int):∀so:List Cl,((bV so cX p day).map λc=>(c.o,c.n)).Sublist (so.map λc=>(c.o,c.n))
 |[]=>List.Sublist.slnil
 |c::so=>by
  have ih:=kL cX p day so;unfold bV at ih ⊢;rw[uO,uW,uY];have:((fU cX p day c).map λc=>(c.o,c.n))=[(c.o,c.n)]∨((fU cX p day c).map λc=>(c.o,c.n))=[]:=by
   unfold fU;split
   ·exact .inl rfl
   ·split
    ·exact .inl rfl
    ·exact .inr rfl
  rcases this with h|h
  ·rw[h];exact ih.cons₂ _
  ·rw[h];exact ih.cons _
theorem kM (h:c∈bV so cX p day):∃c'∈so,c'.o=c.o/\c'.n=c.n:=by
 have:=(kL cX p day so).subset (uS ⟨c,h,rfl⟩);obtain⟨c',h1,h2⟩:=vO this;injection h2 with h3 h4;exact⟨c',h1,h3,h4⟩
theorem jp:∀(ss ts:List Str),ts.Nodup->(ss.foldl j6 ts).Nodup
 |[],_,h=>h
 |s::ss,ts,h=>jp ss _ (Ap h s)
theorem rF (so:List Cl)(p:Str)(day:Int):(dh so p day).Nodup:=(fN _).nodup_iff.mpr (jp _ [] List.nodup_nil)
theorem yP (K:KL)(hk:List (List cw))(hv:List D)(p:Str)(day:Int)(n:Nat):∀os:List Str,((os.flatMap (dU K hk hv p day n)).map λc=>(c.o,c.n)).Sublist (os.map λo=>(o,n))
 |[]=>List.Sublist.slnil
 |o::os=>by
  have ih:=yP K hk hv p day n os;rw[uO,uW,uY];have:((dU K hk hv p day n o).map λc=>(c.o,c.n))=[(o,n)]∨((dU K hk hv p day n o).map λc=>(c.o,c.n))=[]:=by
   unfold dU;split
   ·split
    ·exact .inl rfl
    ·exact .inr rfl
   ·exact .inr rfl
  rcases this with h|h
  ·rw[h];exact ih.cons₂ _
  ·rw[h];exact ih.cons _
theorem ud {α:Type}[DecidableEq α]:∀(l m:List α),l.Nodup->(∀x∈l,x∈m)->l.length<=m.length
 |[],_,_,_=>uN _
 |x::l,m,h,s=>by
  rw[List.nodup_cons]at h;have hx:=s x mX;have:=ud l (m.erase x) h.2 λy hy=>(List.mem_erase_of_ne (a:=y) (b:=x) (λe=>h.1 (by rw[←e];exact hy))).mpr (s y (mZ _ hy));rw[List.length_erase_of_mem hx]at this;have:0<m.length:=List.length_pos_of_mem hx;rw[vE];omega
theorem ue {α β:Type}(f:α->List β)(q:α->Bool)(h:∀a,(f a).length<=1/\(q a=false->f a=[])):∀l:List α,(l.flatMap f).length<=(l.filter q).length
 |[]=>vT _
 |a::l=>by
  have ih:=ue f q h l;rw[uO,uZ];cases hq:q a with
  |true=>rw[List.filter_cons_of_pos hq,vE];have:=(h a).1;omega
  |false=>rw[List.filter_cons_of_neg (by rw[hq];decide),(h a).2 hq];simpa using ih
theorem Jl (K:KL)(so:List Cl)(hk:List (List cw))(hv:List D)(p:Str)(day:Int)(n:Nat):(r6 K so hk hv p day n).length<=(hk.filter λk=>decide (AE k=p)).length:=by
 refine vR (ue _ (λo=>(cB hk hv [.inr o,.inr p]).isSome) (λo=>⟨lL _ _ _ _ _ _ _,λh=>?_⟩) _) ?_
 ·have hl:cB hk hv [.inr o,.inr p]=none:=by simpa using h
  unfold dU yM;rw[hl]
 ·have Ke:(((dh so p day).filter λo=>(cB hk hv [.inr o,.inr p]).isSome).map λo=>([.inr o,.inr p]:List cw)).Nodup:=List.Pairwise.map _ (λa b hab e=>hab (by injection e with e _;injection e)) ((rF so p day).filter _);have:=ud _ (hk.filter λk=>decide (AE k=p)) Ke λk hm=>by
   obtain⟨o,ho,rfl⟩:=vO hm;obtain⟨v,hv⟩:=uU (vN ho).2;exact List.mem_filter.mpr ⟨yO hv,decide_eq_true rfl⟩
  rwa [vI]at this
theorem z5.step {K l:KL}{dd:List Str}{st:O4}(h:z5 K l dd st){x:D×Nat}(hx:x.2∉l.map (·.2)):∃JU,z5 K (l++[x]) JU (eK K st x):=by
 have up:∀ {n:Nat},n∈l.map (·.2)->n∈(l++[x]).map (·.2):=λh=>by rw[uW];exact List.mem_append_left _ h
 have me:x.2∈(l++[x]).map (·.2):=by simp
 have ll:(l++[x]).length=l.length+1:=by simp
 have Rq:∀q∈dd,∃y∈l++[x],iq K q (az y.1) y.2=true:=λq hq=>by
  obtain⟨y,h1,h2⟩:=h.ded q hq;exact⟨y,List.mem_append_left _ h1,h2⟩
 have wk:z5 K (l++[x]) dd st:=⟨by have:=h.len;omega,Rq,h.nod,λc hc=>up (h.num c hc),h.hs,by have:=h.hk;omega⟩;have bF:=h.len;unfold eK;split
 ·rename_i hcount;split
  ·refine⟨dd,by simp;omega,Rq,?_,λc hc=>?_,h.hs,by rw[ll];exact Nat.le_succ_of_le h.hk⟩
   ·rw[uW,List.nodup_append];refine⟨h.nod,by simp,λa ha b hb e=>?_⟩;obtain⟨c,hc,rfl⟩:=vO ha;simp at hb;subst hb;injection e with _ e2;exact hx (e2 ▸ h.num c hc)
   ·rcases List.mem_append.mp hc with hc|hc
    ·exact up (h.num c hc)
    ·rw[uT hc];exact me
  ·split
   ·have hl:=fW [a7 2 x.1] (a7 1 x.1) (gF 4 x.1) st.1;refine⟨dd,by simp;omega,Rq,?_,λc hc=>?_,h.hs,by rw[ll];exact Nat.le_succ_of_le h.hk⟩
    ·rw[uW,List.nodup_append];refine⟨h.nod.sublist (kL _ _ _ _),by simp,λa ha b hb e=>?_⟩;obtain⟨c,hc,rfl⟩:=vO ha;simp at hb;subst hb;injection e with _ e2;obtain⟨c',h1,_,h3⟩:=kM hc;exact hx (e2 ▸ h3 ▸ h.num c' h1)
    ·rcases List.mem_append.mp hc with hc|hc
     ·obtain⟨c',h1,_,h3⟩:=kM hc;rw[←h3];exact up (h.num c' h1)
     ·rw[uT hc];exact me
   ·split
    ·have hp:∀k:List cw,Jk dd (dA st.2.1 k)<=Jk dd st.2.1+1/\(dA st.2.1 k).length<=st.2.1.length+1:=λk=>by
      unfold dA;split
      ·omega
      ·have:([k].filter λk=>decide (AE k∉dd)).length<=1:=vM _ _;unfold Jk;rw[List.filter_append,uZ,uZ,List.length_singleton];omega
     refine⟨dd,?_,Rq,wk.nod,wk.num,λv hv=>?_,?_⟩
     ·have:=(hp [.inr (a7 2 x.1),.inr (a7 1 x.1)]).1;rw[ll];show st.1.length+Jk dd (dA st.2.1 [.inr (a7 2 x.1),.inr (a7 1 x.1)])<=_;omega
     ·rcases tZ hv with hv|hv
      ·exact⟨_,hv⟩
      ·exact h.hs v hv
     ·have:=(hp [.inr (a7 2 x.1),.inr (a7 1 x.1)]).2;have:=h.hk;rw[ll];show(dA _ _).length<=_;omega
    ·rename_i n1 n2 n3;have hd:kindOf x.1 = "death":=by
      unfold cI at hcount;by_cases hd:kindOf x.1 = "death"
      ·exact hd
      ·rw[if_neg hd,if_neg (by simp[wE,n1,n2,n3])]at hcount;cases hcount
     have hf:iq K (a7 1 x.1) (az x.1) x.2=true:=by unfold cI at hcount;rwa [if_pos hd]at hcount
     have Sj:a7 1 x.1∉dd:=λhm=>by
      obtain⟨y,h1,h2⟩:=h.ded _ hm;exact hx (by rw[←AF h2 hf];exact uS ⟨y,h1,rfl⟩)
     have hl:=fW (st.1.map Cl.o) (a7 1 x.1) (az x.1) st.1;have Z1:=Jl K st.1 st.2.1 st.2.2 (a7 1 x.1) (az x.1) x.2;have VR:=rE (a7 1 x.1) dd Sj st.2.1;have Wm:=yP K st.2.1 st.2.2 (a7 1 x.1) (az x.1) x.2 (dh st.1 (a7 1 x.1) (az x.1));have Wn:∀c∈r6 K st.1 st.2.1 st.2.2 (a7 1 x.1) (az x.1) x.2,c.o∈dh st.1 (a7 1 x.1) (az x.1)/\c.n=x.2:=λc hc=>by
      have:=Wm.subset (uS ⟨c,hc,rfl⟩);obtain⟨o,h1,h2⟩:=vO this;injection h2 with h3 h4;exact⟨h3 ▸ h1,h4.symm⟩
     refine⟨a7 1 x.1::dd,?_,λq hq=>?_,?_,λc hc=>?_,h.hs,by rw[ll];exact Nat.le_succ_of_le h.hk⟩
     ·rw[ll];show(bV st.1 (st.1.map Cl.o) (a7 1 x.1) (az x.1)++r6 K st.1 st.2.1 st.2.2 (a7 1 x.1) (az x.1) x.2).length+Jk _ st.2.1<=_;rw[uZ];omega
     ·rcases vP hq with rfl|hq
      ·exact⟨x,by simp,hf⟩
      ·exact Rq q hq
     ·rw[uW,List.nodup_append];refine⟨h.nod.sublist (kL _ _ _ _),List.Nodup.sublist Wm (List.Pairwise.map _ (λa b hab e=>hab (by injection e)) (rF _ _ _)),λa ha b hb e=>?_⟩;obtain⟨c,hc,rfl⟩:=vO ha;obtain⟨c2,Cu,rfl⟩:=vO hb;injection e with _ e2;obtain⟨c',h1,_,h3⟩:=kM hc;exact hx ((Wn c2 Cu).2 ▸ e2 ▸ h3 ▸ h.num c' h1)
     ·rcases List.mem_append.mp hc with hc|hc
      ·obtain⟨c',h1,_,h3⟩:=kM hc;rw[←h3];exact up (h.num c' h1)
      ·rw[(Wn c hc).2];exact me
 ·exact⟨dd,wk⟩
theorem Jm (e:ρ[i]? = some (some (.dt ks vs,true)))(ev:fv ρ=some (d,b))(ek:fk ρ=some kd)(hk:iH kd=some kk)(hf:bu d=true)(h1:ks.length<=1000)(h2:kd.length<=1000):tN i fk fv ρ=some (.nx (ρ.set i (some (.dt (dA ks kk) (dB ks vs kk d),true)))):=by
 unfold tN;rw[e];dsimp only;rw[ev,vJ,ek,vJ,hk,vJ,if_pos ⟨hf,bK (by omega),dm (by omega)⟩]
theorem Tl (a b:Cl):(ba (kC a) (kC b)).isSome=true:=by
 unfold kC;rw[ba];split
 ·rw[ba];split
  ·rw[ba];split
   ·rw[ba];rfl
   ·rfl
  ·rfl
 ·rfl
theorem Ca (cs:List Cl):eD (cs.map kC)=true:=by
 unfold eD;simp[List.all_eq_true,Tl]
theorem ug {α β:Type}(f:α->β):∀ {l:List α},(l.map f).Nodup->∀ {a b:α},a∈l->b∈l->f a=f b->a=b
 |[],_,_,_,ha,_,_=>by cases ha
 |c::l,h,a,b,ha,hb,e=>by
  rw[uY,List.nodup_cons]at h;rcases vP ha with ea|ha1
  ·rcases vP hb with eb|hb1
   ·rw[ea,eb]
   ·exact absurd (uS ⟨b,hb1,by rw[←e,ea]⟩) h.1
  ·rcases vP hb with eb|hb1
   ·exact absurd (uS ⟨a,ha1,by rw[e,eb]⟩) h.1
   ·exact ug f h.2 ha1 hb1 e
theorem Gj {cs:List Cl}{a b:Cl}(ha:a∈cs)(hb:b∈cs)(e:cD (kC a)=cD (kC b)):(a.o,a.n)=(b.o,b.n):=by
 have h:=np (Ca cs) (uS ⟨a,ha,rfl⟩) (uS ⟨b,hb,rfl⟩) e;unfold kC at h;injection h with h1 h2;injection h1 with h1;injection h2 with _ h3;injection h3 with h3 _;injection h3 with h3;rw[h1,show a.n=b.n by omega]
theorem Jn (g:gs ab)(aa:Int)(h:z5 (ak ab aa) l dd st)(hj:l.length<=60)(hx:x∈ak ab aa)(OL:bc x.1=false)(v5:OB):
  ∃w5,(kK [sF (.tup ab),sF (.int aa),lT (st.1.map aR),some (.dt st.2.1 st.2.2,true),sF (.int x.2),v5]=some (.nx [sF (.tup ab),sF (.int aa),lT ((eK (ak ab aa) st x).1.map aR),some (.dt (eK (ak ab aa) st x).2.1 (eK (ak ab aa) st x).2.2,true),sF (.int x.2),w5])
   ∨ kK [sF (.tup ab),sF (.int aa),lT (st.1.map aR),some (.dt st.2.1 st.2.2,true),sF (.int x.2),v5]=some (.ct [sF (.tup ab),sF (.int aa),lT ((eK (ak ab aa) st x).1.map aR),some (.dt (eK (ak ab aa) st x).2.1 (eK (ak ab aa) st x).2.2,true),sF (.int x.2),w5])):=by
 obtain⟨ha,gx⟩:=dq g hx;have uw:st.1.length<=60:=by have:=h.len;omega
 have hf:bu x.1=true:=gx.rp.flat;have ec:=D4 g aa st.1 uw hx OL;have C1:fj (bp (fA m9 (fV 0 (fV 1 (fV 2 (fV 4 aj)))))) [sF (.tup ab),sF (.int aa),lT (st.1.map aR),some (.dt st.2.1 st.2.2,true),sF (.int x.2),some (x.1,false)]=some (!cI (ak ab aa) st.1 x) :=
  cu (cY (aL [.tup ab,.int aa,.lst (st.1.map aR),.int x.2] (by simp) ec))
 have hw:fA aJ (fV 5 aj) [sF (.tup ab),sF (.int aa),lT (st.1.map aR),some (.dt st.2.1 st.2.2,true),sF (.int x.2),some (x.1,false)]=sF (.str (kindOf x.1)):=aL [x.1] rfl (iX gx);refine⟨some (x.1,false),?_⟩;cases hc:cI (ak ab aa) st.1 x with
 |false=>
  rw[hc]at C1;have es:eK (ak ab aa) st x=st:=by unfold eK;rw[hc];rfl
  rw[es];exact .inr (ga x.1 (by simp[ha]) hf (Tj (kW C1 rfl)))
 |true=>
  rw[hc]at C1;left;refine ga x.1 (by simp[ha]) hf (dC (m5 C1 rfl) ?_);by_cases hn:kindOf x.1 = "named"
  ·have es:eK (ak ab aa) st x=(st.1++[⟨a7 1 x.1,a7 2 x.1,az x.1,none,x.2⟩],st.2):=by unfold eK;rw[hc,if_pos rfl,if_pos hn]
   rw[es];refine kW (bM (bb:=false) hw (decide_eq_true hn)) ?_;have OM:au [x.1,.str "office"]=sF (.str (a7 1 x.1))/\au [x.1,.str "person"]=sF (.str (a7 2 x.1)):=by
    obtain⟨a,k,aC,e,d⟩:=gx;rw[e]at hn ⊢;replace hn:k = "named":=hn;cases d with
    |named d o p=>exact⟨bj (i:=1) cW rfl,bj (i:=2) cW rfl⟩
    |root=>exact cL hn
    |chosen=>exact cL hn
    |heir=>exact cL hn
    |three _ hk=>rcases hk with rfl|rfl|rfl<;>exact cL hn
    |other _ hk=>rcases hk with rfl|rfl|rfl|rfl|rfl<;>exact cL hn
   have wM:aO [x.1]=sF (.int (az x.1)):=by rw[qZ gx];unfold sr;rw[OL];rfl
   have e2:f2 bS (ai 2) (fA bD (af (fA gn (fV 5 (af (fA aO (fV 5 aj)) (fV 4 aj)))) aj)) [sF (.tup ab),sF (.int aa),lT (st.1.map aR),some (.dt st.2.1 st.2.2,true),sF (.int x.2),some (x.1,false)]=lT (st.1.map aR++[aR ⟨a7 1 x.1,a7 2 x.1,az x.1,none,x.2⟩]):=by
    refine iD (x:=.lst (st.1.map aR)) (y:=.lst [aR ⟨a7 1 x.1,a7 2 x.1,az x.1,none,x.2⟩]) (b1:=false) (b2:=true) rfl ?_ (if_pos (dm (by rw[vI,List.length_singleton];omega)));exact aL [aR ⟨a7 1 x.1,a7 2 x.1,az x.1,none,x.2⟩] (aF (aL [x.1,.int (az x.1),.int x.2] (cj rfl (cj (aL [x.1] rfl wM) rfl)) (Lf OM.1 OM.2 _ _)) rfl) (g9 _ (by simp))
   have:=px (i:=2) e2 (by have hq:=jo (st.1++[(⟨a7 1 x.1,a7 2 x.1,az x.1,none,x.2⟩:Cl)]);rwa [uW]at hq);rw[uW];exact this
  ·refine m5 (bM (bb:=false) hw (decide_eq_false hn)) ?_;by_cases oS:kindOf x.1 = "chosen"
   ·have es:eK (ak ab aa) st x=(bV st.1 [a7 2 x.1] (a7 1 x.1) (gF 4 x.1)++[⟨a7 2 x.1,a7 3 x.1,gF 4 x.1,none,x.2⟩],st.2):=by unfold eK;rw[hc,if_pos rfl,if_neg hn,if_pos oS]
    rw[es];refine kW (bM (bb:=false) hw (decide_eq_true oS)) (px (i:=2) (aL [.lst (st.1.map aR),x.1,.int x.2] rfl ?_) (jo _));obtain⟨a,k,aC,e,d⟩:=gx;rw[e]at oS ⊢;replace oS:k = "chosen":=oS;cases d with
    |chosen d b o p s=>exact D5 st.1 uw x.2
    |root=>exact cL oS
    |named=>exact cL oS
    |heir=>exact cL oS
    |three _ hk=>rcases hk with rfl|rfl|rfl<;>exact cL oS
    |other _ hk=>rcases hk with rfl|rfl|rfl|rfl|rfl<;>exact cL oS
   ·refine m5 (bM (bb:=false) hw (decide_eq_false oS)) ?_;by_cases hh:kindOf x.1 = "heir"
    ·have es:eK (ak ab aa) st x=(st.1,dA st.2.1 [.inr (a7 2 x.1),.inr (a7 1 x.1)],dB st.2.1 st.2.2 [.inr (a7 2 x.1),.inr (a7 1 x.1)] (.str (a7 3 x.1))):=by unfold eK;rw[hc,if_pos rfl,if_neg hn,if_neg oS,if_pos hh]
     rw[es];have OM:au [x.1,.str "office"]=sF (.str (a7 2 x.1))/\au [x.1,.str "by"]=sF (.str (a7 1 x.1))/\au [x.1,.str "person"]=sF (.str (a7 3 x.1)):=by
      obtain⟨a,k,aC,e,d⟩:=gx;rw[e]at hh ⊢;replace hh:k = "heir":=hh;cases d with
      |heir d b o p=>exact⟨bj (i:=2) cW rfl,bj (i:=1) cW rfl,bj (i:=3) cW rfl⟩
      |root=>exact cL hh
      |named=>exact cL hh
      |chosen=>exact cL hh
      |three _ hk=>rcases hk with rfl|rfl|rfl<;>exact cL hh
      |other _ hk=>rcases hk with rfl|rfl|rfl|rfl|rfl<;>exact cL hh
     exact kW (bM (bb:=false) hw (decide_eq_true hh)) (Jm (ks:=st.2.1) (vs:=st.2.2) (kd:=[.str (a7 2 x.1),.str (a7 1 x.1)]) (b:=false) rfl (aL [x.1,.str "person"] rfl OM.2.2) (aF (aL [x.1,.str "office"] rfl OM.1) (aF (aL [x.1,.str "by"] rfl OM.2.1) rfl)) rfl rfl (by have:=h.hk;omega) (by simp))
    ·refine m5 (bM (bb:=false) hw (decide_eq_false hh)) ?_;have es:eK (ak ab aa) st x=(bV st.1 (st.1.map Cl.o) (a7 1 x.1) (az x.1)++r6 (ak ab aa) st.1 st.2.1 st.2.2 (a7 1 x.1) (az x.1) x.2,st.2):=by unfold eK;rw[hc,if_pos rfl,if_neg hn,if_neg oS,if_neg hh]
     rw[es];have hd:kindOf x.1 = "death":=by
      unfold cI at hc;by_cases hd:kindOf x.1 = "death"
      ·exact hd
      ·rw[if_neg hd,if_neg (by simp[wE,hn,oS,hh])]at hc;cases hc
     refine px (i:=2) (aL [.tup ab,.int aa,.lst (st.1.map aR),.dt st.2.1 st.2.2,.int x.2] (by simp) ?_) (jo _);obtain⟨a,k,aC,e,d⟩:=gx;have hk:k = "death":=by rw[e]at hd;exact hd
     subst hk;obtain⟨dd,p,rfl⟩:=d.deed.three (by decide +kernel);have:=Gi g aa st.1 uw st.2.1 st.2.2 h.hs hx e;rw[this,e];rfl
theorem Cb (K:KL):∀(l l0:KL)(st:O4)(dd:List Str),z5 K l0 dd st->((l0++l).map (·.2)).Nodup->∃JU,z5 K (l0++l) JU (l.foldl (eK K) st)
 |[],l0,st,dd,h,_=>⟨dd,by rw[uQ];exact h⟩
 |x::l,l0,st,dd,h,hn=>by
  have hx:x.2∉l0.map (·.2):=λhm=>by
   rw[uW,List.nodup_append]at hn;exact hn.2.2 _ hm x.2 (by simp) rfl
  obtain⟨JU,h'⟩:=h.step hx;have e:l0++x::l=(l0++[x])++l:=by simp
  rw[e]at hn ⊢;exact Cb K l _ _ _ h' hn
theorem Cc (K l:KL)(h:(l.map (·.2)).Nodup):∃dd,z5 K l dd (mK K l):=by
 have:=Cb K l [] ([],[],[]) [] ⟨uN _,by simp,by simp,by simp,by simp,uN _⟩ h;exact this
theorem nG (h:(K.map (·.2)).Nodup):((cJ K).map (·.2)).Nodup:=((bg _ _).map _).nodup_iff.mpr (List.Nodup.sublist (List.Sublist.map _ List.filter_sublist) h)
theorem D6 {ab:List D}(g:gs ab)(aa:Int)(bF:(cJ (ak ab aa)).length<=60):qG [.tup ab,.int aa]=lT ((br (ak ab aa)).map aR)/\(br (ak ab aa)).length<=60:=by
 have eL:dL [.tup ab,.int aa]=lT ((cJ (ak ab aa)).map λx=>.int x.2):=o6 g aa;generalize hK:ak ab aa=K at bF eL ⊢;have nR:∀x∈cJ K,x∈K/\bc x.1=false:=λx hx=>by
  obtain⟨h1,h2⟩:=vN ((bg _ _).mem_iff.mp hx);exact⟨h1,by simpa using h2⟩
 have Ke:((cJ K).map (·.2)).Nodup:=nG (by rw[←hK];exact fw ab aa);obtain⟨ρ',e,v4,v5,rfl⟩:=gk (tg:=dE 4) (g:=kK) (λj ρ=>∃v4 v5:OB,ρ=[sF (.tup ab),sF (.int aa),lT ((mK K ((cJ K).take j)).1.map aR),some (.dt (mK K ((cJ K).take j)).2.1 (mK K ((cJ K).take j)).2.2,true),v4,v5]) ((cJ K).map λx=>.int x.2)
  [sF (.tup ab),sF (.int aa),lT [],some (.dt [] [],true),none,none] ⟨none,none,rfl⟩ (by
   rintro j d ρ hd ⟨v4,v5,rfl⟩;rw[vA]at hd;obtain⟨x,hx,rfl⟩:=oY hd;have Z2:j<(cJ K).length:=(vV hx).1;have et:(cJ K).take (j+1)=(cJ K).take j++[x]:=by rw[List.take_add_one,hx];rfl
   have ef:mK K ((cJ K).take (j+1))=eK K (mK K ((cJ K).take j)) x:=by rw[et];unfold mK;rw[List.foldl_append];rfl
   obtain⟨Sk,YA⟩:=nR x (vL hx);obtain⟨dd,h⟩:=Cc K ((cJ K).take j) (List.Nodup.sublist (List.Sublist.map _ (List.take_sublist _ _)) Ke);rw[←hK]at h;have oU:=Jn g aa h (by rw[hK,List.length_take];omega) (x:=x) (by rw[hK];exact Sk) YA v5;rw[hK]at oU;obtain⟨w5,oU⟩:=oU;exact⟨_,_,rfl,oU,sF (.int x.2),w5,by rw[ef]⟩)
 have mO:(cJ K).take ((cJ K).map λx=>D.int x.2).length=cJ K:=by rw[vI,List.take_length]
 rw[mO]at e;obtain⟨dd,uw⟩:=Cc K (cJ K) Ke;generalize wP:(mK K (cJ K))=st at e uw;have zx:st.1.length<=60:=by have:=uw.len;omega
 have Wo:br K=eC (λc=>cD (kC c)) st.1:=by unfold br;rw[wP]
 have hm:∀ρ:DL.Env,jf (sq gm ρ) (st.1.map aR)=some (st.1.map λc=>.tup [.str c.o,.int c.s,.int c.n]):=λρ=>ie st.1 λc _=>by
  show(gm [aR c]).map _=_;rw[wA];rfl
 have hk:dz (st.1.map λc=>D.tup [.str c.o,.int c.s,.int c.n])=some (st.1.map kC):=gO st.1 λc _=>rfl;have ju:(st.1.map kC).length<64/\eD (st.1.map kC)=true/\fu (st.1.map kC)=true/\((st.1.map kC).map cD).Nodup:=by
  refine⟨by rw[vI];omega,Ca _,?_,?_⟩
  ·unfold fu;rw[Bool.or_eq_true];right;simp[List.all_eq_true,kC]
  ·rw[uP];have h1:st.1.Pairwise λa b=>(a.o,a.n)≠(b.o,b.n):=List.pairwise_map.mp uw.nod;have h2:st.1.Pairwise λa b=>cD (kC a)≠cD (kC b):=by
    refine List.Pairwise.imp_of_mem ?_ h1;intro a b ha hb nQ e;exact nQ (Gj ha hb e)
   exact List.pairwise_map.mpr h2
 have hz:(st.1.map kC).zip (st.1.map aR)=st.1.map λc=>(kC c,aR c):=by rw[List.zip_map']
 have key:((br K).map λc=>(kC c,aR c))=eC (λp:List At×D=>cD p.1) (st.1.map λc=>(kC c,aR c)):=by
  rw[Wo];refine jd _ (λx hx y hy e=>?_) ((bg _ _).map _) ?_
  ·obtain⟨a,ha,rfl⟩:=vO hx;obtain⟨b,hb,rfl⟩:=vO hy;rw[ug (λc:Cl=>(c.o,c.n)) uw.nod ha hb (Gj ha hb e)]
  ·exact List.pairwise_map.mpr (dI _ _)
 refine⟨aw rfl (cf (ds:=[]) (by simp[sizeLine]) rfl (dC (ρ':=[sF (.tup ab),sF (.int aa),lT [],some (.dt [] [],true),none,none]) rfl (dC (kI (ds:=(cJ K).map λx=>.int x.2) ?_ e) (ay ?_)))),by rw[Wo,(bg _ _).length_eq];exact zx⟩
 ·show(fA dL (fV 0 (fV 1 aj)) _).bind _=_;rw[aL [.tup ab,.int aa] rfl eL];rfl
 ·unfold pZ;show((some (D.lst (st.1.map aR),false)).bind _)=_;simp only[vJ];rw[hm];simp only[vJ];rw[hk];simp only[vJ];rw[if_pos ju];unfold jg;rw[hz,←key,uP];rfl
end Lw
namespace Lw
open PySem PySem.Spec DL L2
theorem yQ (ns:List Int)(k:Nat)(x:Int):∃c:Int,(a8 (aQ 2 (f2 bG (f2 g7 (f2 bS (f2 bS (f2 bG (ai 2) (fI 2147483629)) (f2 g7 (fI 6151) (ai 1))) (fI 1)) (fI 48271)) (fI 2147483647)))
  (aZ (f2 bG (f2 g7 (ai 2) (f2 bS (f2 bS (f2 bG (ai 2) (fI 65519)) (ai 1)) (fI 2))) (fI 2147483629)))) [sF (.lst (ns.map .int)),sF (.int k),sF (.int x)]=some (.rt (.int c) false)/\0<=c:=by
 obtain⟨y,hy⟩:∃y,((x % 2147483629+6151*k+1)*48271) % 2147483647=y:=⟨_,rfl⟩;have hb:0<=y/\y<2147483647:=by rw[←hy];exact mod_lt (by decide)
 have hc : -18446744073709551616<y/\y<18446744073709551616:=by omega
 exact⟨(y*(y % 65519+k+2)) % 2147483629,ga (.int y) (by simp[hy]) rfl (ay (by simp[hc])),(mod_lt (by decide)).1⟩
theorem iN (ns:List Int)(k:Nat):∃c:Int,dP [.lst (ns.map .int),.int k]=sF (.int c)/\0<=c:=by
 by_cases h:ns.length=0
 ·have e:ns=[]:=List.length_eq_zero_iff.mp h;subst e;obtain⟨c,h1,h2⟩:=yQ [] k 5;exact⟨c,aw rfl (ga (.int 5) rfl rfl (aA (cY (by simp)) h1)),h2⟩
 ·have hm:=mod_lt (x:=(k:Int)) (m:=ns.length) (by omega);obtain⟨c,h1,h2⟩:=yQ ns k (ns.getD ((k:Int) % ns.length).toNat 0);refine⟨c,aw rfl (ga (.int 5) rfl rfl (dC (kW (cY (by simp;omega)) (qu (d:=.int (ns.getD ((k:Int) % ns.length).toNat 0)) (b:=false) ?_ rfl)) h1)),h2⟩;refine bw (.lst (ns.map .int)) (.int ((k:Int) % ns.length)) rfl ?_ (wt hm.1 (by omega));refine bw (.int k) (.int ns.length) rfl (by simp) ?_;have nQ:¬ns=[]:=λe=>h (by rw[e];rfl);simp[bG,nQ]
theorem Gk {ρ:DL.Env}{i n:Nat}{ds:List D}{fk fv:FE}{d:D}{b b':Bool}(e:ρ[i]? = some (lT ds))(ev:fv ρ=some (d,b))(ek:fk ρ=some (.int n,b'))(hn:n<ds.length)(hf:bu d=true):Dc i fk fv ρ=some (.nx (ρ.set i (lT (ds.set n d)))):=by
 have hx:CG ds.length (n:Int)=some n:=by
  unfold CG;rw[if_pos (by omega)];simp[hn]
 simp only[Dc,e,ev,ek,vJ,hx,if_pos hf]
theorem Ce:∀(zs:List Str),(∀z∈zs,z.length=1)->(zs.map (·.length)).sum=zs.length
 |[],_=>rfl
 |z::zs,h=>by
  rw[uY,List.sum_cons,Ce zs λy hy=>h y (mZ _ hy),h z mX,vE];omega
theorem Cf (x:Int):0<=x % 26/\x % 26<26:=mod_lt (by decide)
noncomputable def mL:PySem.Str:="abcdefghijklmnopqrstuvwxyz"
theorem D7:mL.cps.size=26:=by decide +kernel
def Qv (x:Int):Str:=⟨#[mL.cps.toList.getD (x % 26).toNat 0]⟩
theorem Gm (x:Int):b7 (.str mL) (.int (x % 26))=sF (.str (Qv x)):=DL.zP (Cf x).1 (by rw[D7];have:=Cf x;omega) (by decide +kernel)
theorem yR:∀(zs:List Str)(y:Str),(Str.join ("" : Str) (y::zs)).cps.toList=(y::zs).flatMap λz=>z.cps.toList
 |[],y=>by rw[uO,List.flatMap_nil,uQ];rfl
 |z::r,y=>by
  have e3:∀a b:Str,(a++b).cps.toList=a.cps.toList++b.cps.toList:=λa b=>by show(a.cps++b.cps).toList=_;simp
  show(y++("" : Str)++Str.join ("" : Str) (z::r)).cps.toList=_;rw[e3,e3,yR r z,show("" : Str).cps.toList=[]from rfl,uQ];rfl
theorem Gn (h:zs≠[]):(Txt.join ("" : Str) zs).cps.toList=zs.flatMap λz=>z.cps.toList:=by
 cases zs with
 |nil=>exact absurd rfl h
 |cons y zs=>
  unfold Txt.join;rw[StrLaws.glued_eq_join];exact yR zs y
theorem mM (x y:Nat):∀(bs:List Str)(a:Nat),a<bs.length->(∀z∈bs,∃c,z.cps.toList=[c])->((bs.set a ⟨#[x]⟩).flatMap λz=>z.cps.toList)=((bs.set a ⟨#[y]⟩).flatMap λz=>z.cps.toList)->x=y
 |b::bs,0,_,_,h=>by
  rw[List.set_cons_zero,List.set_cons_zero,uO,uO]at h;exact(List.cons.inj h).1
 |b::bs,a+1,hl,hb,h=>by
  rw[List.set_cons_succ,List.set_cons_succ,uO,uO]at h;exact mM x y bs a (by simpa using hl) (λz hz=>hb z (mZ _ hz)) (List.append_cancel_left h)
theorem Go:∀i j:Fin 26,mL.cps.toList.getD i.val 0=mL.cps.toList.getD j.val 0->i=j:=by decide +kernel
def yS (bs:List Str)(a:Nat)(c:Int)(i:Nat):Str:=Txt.join ("" : Str) (bs.set a (Qv (c / 64+3*(i:Int))))
theorem Lg {bs:List Str}{a:Nat}{c:Int}{i j:Nat}(ha:a<bs.length)(hb:∀z∈bs,∃c,z.cps.toList=[c])(Cz:(3*(i:Int) - 3*(j:Int)) % 26≠0):yS bs a c i≠yS bs a c j:=by
 intro e;have e:=congrArg (λs:Str=>s.cps.toList) e;unfold yS at e;have nQ:∀x,bs.set a x≠[]:=λx z=>by have:=congrArg List.length z;rw[List.length_set,List.length_nil]at this;omega
 simp only[Gn (nQ _)]at e;have:=mM _ _ bs a ha hb e;have h1:=Cf (c / 64+3*(i:Int));have h2:=Cf (c / 64+3*(j:Int));have:=Go ⟨((c / 64+3*(i:Int)) % 26).toNat,by omega⟩ ⟨((c / 64+3*(j:Int)) % 26).toNat,by omega⟩ this;have:=congrArg Fin.val this;simp only at this;omega
theorem Gp (c:Int)(hc:0<=c):∃zs:List Str,nv [.int c]=lT (zs.map .str)/\zs.length=7/\∀x y,zs[5]? = some x->zs[6]? = some y->x≠y:=by
 have h8:=mod_lt (x:=c) (m:=8) (by decide);obtain⟨n,hn⟩:∃n:Nat,1+c % 8=n:=⟨(1+c % 8).toNat,by omega⟩;have Sl:1<=n:=by omega
 have Z3:n<=8:=by omega
 let bs:List Str:=(List.range n).map λ(k:Nat)=>Qv (c / (3+4*k));have Kb:bs.length=n:=by simp[bs]
 have hb:=oi (fi:=gW (f2 bS (fI 1) (f2 bG (ai 0) (fI 8)))) (nT:=1) (cap:=[1,0]) (tg:=dE 0) (fe:=f2 b7 (ai 1) (f2 bG (f2 cP (ai 2) (f2 bS (fI 3) (f2 g7 (fI 4) (ai 0)))) (fI 26)))
  (ρ:=[sF (.int c),sF (.str mL),none,none,none,none,none]) (List.range n) (λ(k:Nat)=>.int k) (λ(k:Nat)=>.str (Qv (c / (3+4*k))))
  (by rw[kJ (j:=n) (b:=false) (by simp;omega) (by omega),D0];simp) (by simp;omega) λk hk=>by
   have hk:=List.mem_range.mp hk;refine⟨_,rfl,false,bw (.str mL) (.int (c / (3+4*k) % 26)) (by simp[dG]) ?_ (Gm _)⟩;have h1:(0:Int)<3+4*k:=by omega
   have h2:(3:Int)+4*k<1073741824:=by omega
   simp[dG,h1,h2]
 have YB:bO (gW (f2 bS (fI 1) (f2 bG (ai 0) (fI 8)))) 1 [1,0] (dE 0) gQ (f2 b7 (ai 1) (f2 bG (f2 cP (ai 2) (f2 bS (fI 3) (f2 g7 (fI 4) (ai 0)))) (fI 26))) [sF (.int c),sF (.str mL),none,none,none,none,none]=lT (bs.map .str):=by
  rw[hb];simp[bs]
 have Z4:=mod_lt (x:=c / 8) (m:=n) (by omega);obtain⟨a,ha⟩:∃a:Nat,c / 8 % n=a:=⟨(c / 8 % n).toNat,by omega⟩;obtain⟨zs,v5,v6,e,hz,Ob⟩:∃(zs:List Str)(v5 v6:OB),iC (dE 5) lI (eG 0 7) [sF (.int c),sF (.str mL),lT (bs.map .str),sF (.int (c / 8 % n)),lT [],none,none]=some (.nx [sF (.int c),sF (.str mL),lT (bs.map .str),sF (.int (c / 8 % n)),lT (zs.map .str),v5,v6])/\zs.length=7/\zs=(List.range 7).map (yS bs a c):=by
  obtain⟨ρ',e,zs,v5,v6,rfl,hz,Ob⟩:=qq (tg:=dE 5) (g:=lI) 7 (λi ρ=>∃(zs:List Str)(v5 v6:OB),ρ=[sF (.int c),sF (.str mL),lT (bs.map .str),sF (.int (c / 8 % n)),lT (zs.map .str),v5,v6]/\zs.length=i/\zs=(List.range i).map (yS bs a c))
   [sF (.int c),sF (.str mL),lT (bs.map .str),sF (.int (c / 8 % n)),lT [],none,none] ⟨[],none,none,rfl,rfl,rfl⟩ (by
    rintro i ρ hi ⟨zs,v5,v6,rfl,hz,Ob⟩;let l:=Qv (c / 64+3*i);let nm:=bs.set a l;have h1:∀z∈nm,z.length=1:=λz hz=>by
     rcases List.mem_or_eq_of_mem_set hz with h|h
     ·obtain⟨k,_,rfl⟩:=vO h;rfl
     ·rw[h];rfl
    have Sg:nm.length=n:=by simp[nm,Kb]
    refine⟨_,_,rfl,.inl (cf (ds:=bs.map .str) (by simp) (dR _) (dC (Gk (n:=a) (ds:=bs.map .str) (d:=.str l) (b:=false) (b':=false) rfl ?_ ?_ (by simp[Kb];omega) rfl) (j8 (ds:=zs.map .str) (d:=.str (Txt.join ("" : Str) nm)) (b:=false) rfl ?_ rfl (bK (by simp;omega))))),zs++[Txt.join ("" : Str) nm],sF (.int i),lT (nm.map .str),?_,by simp[hz],by rw[Ob,List.range_succ,uW];rfl⟩
    ·exact bw (.str mL) (.int ((c / 64+3*i) % 26)) rfl (by simp) (Gm _)
    ·simp[ha]
    ·refine bw (.str "") (.lst (nm.map .str)) rfl (by simp[nm]) ?_;show(gB (nm.map .str)).bind _=_;rw[rj];have:=Ce nm h1;have h0:("" : Str).length=0:=rfl;show(if _ then _ else _)=_;rw[if_pos (by rw[this,h0,Sg];omega)]
    ·simp[nm])
  exact⟨zs,v5,v6,e,hz,Ob⟩
 have hsz:(bs.length:Int)=n:=by omega
 refine⟨if c / 1000 % 8=1 then zs.set 5 (zs.getD 0 ⟨#[]⟩)else zs,?_,by split<;>simp[hz],?_⟩
 refine aw rfl (ga (.str mL) rfl rfl (cf (ds:=bs.map .str) YB (dR _) (ga (.int (c / 8 % n)) ?_ rfl (cf (ds:=[]) (by simp[sizeLine]) (by simp) (dC (m6 (kJ (j:=7) (b:=false) rfl (by decide)) e) ?_)))))
 ·have:(bs.length:Int)≠0:=by omega
  refine bw (.int (c / 8)) (.int n) (by simp) (by simp[Kb]) ?_;have h1:(0:Int)<n:=by omega
  show(if decide ((0:Int)<n)=true then _ else _)=_;rw[if_pos (decide_eq_true h1)]
 ·by_cases h:c / 1000 % 8=1
  ·rw[if_pos h];have h5:5<(zs.map D.str).length:=by simp[hz]
   obtain⟨z0,zr,rfl⟩:∃z0 zr,zs=z0::zr:=by cases zs with|nil=>simp at hz|cons a b=>exact⟨a,b,rfl⟩
   refine dC (kW (cY (by simp[h])) (Gk (n:=5) (ds:=(z0::zr).map .str) (d:=.str z0) (b:=false) (b':=false) rfl ?_ rfl h5 rfl)) (pw ?_)
   ·exact bw (.lst ((z0::zr).map .str)) (.int 0) rfl rfl (by simp[Eh])
   ·simp
  ·rw[if_neg h];exact aA (cY (by simp[h])) (pw rfl)
 ·have Sh:a<bs.length:=by omega
  have Wp:∀z∈bs,∃c,z.cps.toList=[c]:=λz hz=>by obtain⟨k,_,rfl⟩:=vO hz;exact⟨_,rfl⟩
  intro x y hx hy;have h0:zs[0]? = some (yS bs a c 0):=by rw[Ob];rfl
  have h5:zs[5]? = some (yS bs a c 5):=by rw[Ob];rfl
  have h6:zs[6]? = some (yS bs a c 6):=by rw[Ob];rfl
  split at hx
  ·rename_i hc8;rw[if_pos hc8,vB (by decide),h6]at hy;rw[List.getElem?_set_self (by omega),vF,h0]at hx;cases hx;cases hy
   exact Lg Sh Wp (by decide)
  ·rename_i hc8;rw[if_neg hc8,h6]at hy;rw[h5]at hx;cases hx;cases hy
   exact Lg Sh Wp (by decide)
def iB (x:Int×Option Int):D:=.tup [.int x.1,uD x.2]
theorem jq (x:Int×Option Int):bu (iB x)=true:=by simp[iB,BV]
theorem uh (x:Int×Option Int):aq 5 (iB x)=true:=by obtain⟨s,u⟩:=x;cases u<;>simp[iB,uD]
theorem AG (a d m:Int):∃x,gp [.int a,.int d,.int m]=some (iB x,false):=by
 have h8:=mod_lt (x:=a) (m:=8) (by decide);let L1:List (Int×Option Int):=[(0,none),(d,none),(d,some (d+3*m)),(0,some (d+2*m)),(0,some (9*m))];let L2:List (Int×Option Int):=[(d+m,some (d+4*m)),(d / 2,some (d+6*m)),(0,none)];have zy:∀L:List (Int×Option Int),bx (L.map iB)=true:=λL=>bL λd hd=>by obtain⟨x,_,rfl⟩:=vO hd;exact jq x
 have hi:(a % 8).toNat<((L1++L2).map iB).length:=by show _<8;omega
 refine⟨(L1++L2).getD (a % 8).toNat (0,none),aw rfl (cf (ds:=L1.map iB) (by simp[L1,iB,uD,sizeLine]) (zy _) (cf (ds:=(L1++L2).map iB) ?_ (zy _) (ay (bw (.lst ((L1++L2).map iB)) (.int (a % 8)) rfl (by simp) ((A6 h8.1 hi).trans ?_)))))⟩
 ·refine iD (x:=.lst (L1.map iB)) (y:=.lst (L2.map iB)) (b1:=false) (b2:=true) rfl (by simp[L2,iB,uD,sizeLine]) ?_;simp[L1,L2,sizeLine]
 ·rw[vF,vA,vF];rw[vI]at hi;rw[vU hi];rfl
theorem k8 {zs:List Str}{i:Int}(h1 : -(zs.length:Int)<=i)(h2:i<zs.length):∃z∈zs,b7 (.lst (zs.map .str)) (.int i)=sF (.str z):=by
 obtain⟨j,hj,hl⟩:∃j,CG (zs.map D.str).length i=some j/\j<zs.length:=by
  unfold CG;rw[vI];by_cases h0:0<=i
  ·rw[if_pos h0,if_pos h2];exact⟨_,rfl,by omega⟩
  ·rw[if_neg h0,if_pos (by omega)];exact⟨_,rfl,by omega⟩
 refine⟨zs[j],List.getElem_mem hl,?_⟩;have:nU (zs.map D.str) i=some (.str zs[j]):=by unfold nU;rw[hj,vJ,vA,vU hl];rfl
 simp[this]
noncomputable def MR:List Nat:=[7,255,3,15]
noncomputable def MS:List Nat:=[1,2,3,4,5,7,128,255]
inductive Dd:Str->List D->Prop
 |root (o r:Str) (m:Nat) (hm:m∈MR) (f:Int):Dd ("root" : Str) [.str o,.int m,.int f,.str r]
 |named (d:Int) (o p:Str):Dd ("named" : Str) [.int d,.str o,.str p]
 |chosen (d:Int) (b o p:Str) (s:Int):Dd ("chosen" : Str) [.int d,.str b,.str o,.str p,.int s]
 |heir (d:Int) (b o p:Str):Dd ("heir" : Str) [.int d,.str b,.str o,.str p]
 |three (k:Str) (hk:k = "death" ∨ k = "lost" ∨ k = "found") (d:Int) (p:Str):Dd k [.int d,.str p]
 |leave (d:Int) (b p:Str) (m:Nat) (hm:m∈MS) (x:Int×Option Int) (f:Int):Dd ("leave" : Str) [.int d,.str b,.str p,.int m,iB x,.int f]
 |paper (k:Str) (hk:k = "paper" ∨ k = "like") (d:Int) (b:Str) (m:Nat) (hm:m∈MS) (x:Int×Option Int) (r:List D) (hf:bx r=true) (hp:r.all (aq 5)=true):Dd k (.int d::.str b::.int m::iB x::r)
 |copy (k:Str) (hk:k = "copy" ∨ k = "call") (d:Int) (b:Str) (n:Nat):Dd k [.int d,.str b,.int n]
theorem Dd.cd (h:Dd k r):Cd k r:=by
 cases h with
 |root o r m hm f=>exact .root _ _ _ _
 |named d o p=>exact .named _ _ _
 |chosen d b o p s=>exact .chosen _ _ _ _ _
 |heir d b o p=>exact .heir _ _ _ _
 |three k hk d p=>exact .three _ hk _ _
 |leave d b p m hm x f=>exact .other _ (.inl rfl) _ _ _ (by simp[jq]) (by simp only[List.all_cons,List.all_nil,uh,aq,Bool.and_true])
 |paper k hk d b m hm x r hf hp=>exact .other _ (hk.elim (λh=>.inr (.inl h)) λh=>.inr (.inr (.inl h))) _ _ _ (by simp[hf,jq]) (by simp only[List.all_cons,hp,uh,aq,Bool.and_true])
 |copy k hk d b n=>exact .other _ (hk.elim (λh=>.inr (.inr (.inr (.inl h)))) λh=>.inr (.inr (.inr (.inr h)))) _ _ _ rfl (by simp)
theorem Dd.had3 (h:Dd k r)(hk:k = "leave" ∨ k = "named"):∃p,r[2]? = some (.str p):=by
 have hk:k∈[("leave" : Str),"named"]:=by simpa using hk
 cases h with
 |named d o p=>exact⟨p,rfl⟩
 |leave d b p=>exact⟨p,rfl⟩
 |root=>exact cL hk
 |chosen=>exact cL hk
 |heir=>exact cL hk
 |three k fJ=>rcases fJ with rfl|rfl|rfl<;>exact cL hk
 |paper k fJ=>rcases fJ with rfl|rfl<;>exact cL hk
 |copy k fJ=>rcases fJ with rfl|rfl<;>exact cL hk
theorem Dd.had4 (h:Dd k r)(hk:k = "chosen"):∃p,r[3]? = some (.str p):=by
 cases h with
 |chosen d b o p=>exact⟨p,rfl⟩
 |root=>exact cL hk
 |named=>exact cL hk
 |leave=>exact cL hk
 |heir=>exact cL hk
 |three k fJ=>rcases fJ with rfl|rfl|rfl<;>exact cL hk
 |paper k fJ=>rcases fJ with rfl|rfl<;>exact cL hk
 |copy k fJ=>rcases fJ with rfl|rfl<;>exact cL hk
theorem Dd.flat (h:Dd k r):bx r=true:=h.cd.deed.flat
noncomputable def fz:List Str:=[("leave" : Str),"leave","leave","leave","leave","paper","paper","like","copy","copy","call","call","named","death","lost","found","chosen","heir"]
theorem D8 (h:w∈fz):w = "leave" ∨ w = "paper" ∨ w = "like" ∨ w = "copy" ∨ w = "call" ∨ w = "named" ∨ w = "death" ∨ w = "lost" ∨ w = "found" ∨ w = "chosen" ∨ w = "heir":=by
 simp only[fz,List.mem_cons,List.not_mem_nil,or_false]at h;rcases h with rfl|rfl|rfl|rfl|rfl|rfl|rfl|rfl|rfl|rfl|rfl|rfl|rfl|rfl|rfl|rfl|rfl|rfl<;>simp
theorem Gq (many c o day m:Int)(zs i7:List Str)(hz:zs.length=7)(hh:i7≠[]):
  ∃(w oD p:Str)(Lz:Nat),w∈fz/\∀(h:FS)(r:Option Res),h [sF (.int many),sF (.int c),sF (.int o),sF (.lst (zs.map .str)),sF (.int day),sF (.lst (i7.map .str)),sF (.int m),lT (fz.map .str),sF (.str w),sF (.str oD),sF (.str p),sF (.int Lz),none,none,none]=r ->
   (a8 (aQ 7 (f2 bS (f2 bS (Dt (fA bD (af (fS "leave") aj)) (fI 5)) (Dt (fA bD (af (fS "paper") aj)) (fI 2))) (fA bD (af (fS "like") (af (fS "copy") (af (fS "copy") (af (fS "call") (af (fS "call") aj)))))))) (a8 (aQ 7 (f2 bS (ai 7) (fA bD (af (fS "named") (af (fS "death") (af (fS "lost") (af (fS "found") (af (fS "chosen") (af (fS "heir") aj))))))))) (a8 (aQ 8 (f2 b7 (ai 7) (f2 bG (ai 1) (fI 18)))) (a8 (aQ 9 (f2 b7 (ai 5) (f2 oJ (f1 xJ (fI 1)) (f2 bG (f2 cP (ai 1) (fI 18)) (fA Ir (af (fI 3) (af (fA gT (fV 5 aj)) aj))))))) (a8 (eO (bp (f2 eB (f2 bG (f2 cP (ai 1) (fI 54)) (fI 6)) (fI 1))) (aQ 9 (f2 b7 (ai 3) (f2 bG (f2 cP (ai 1) (fI 324)) (fI 5)))) bo) (a8 (aQ 10 (f2 b7 (ai 3) (f2 bG (f2 cP (ai 1) (fI 1620)) (fI 5)))) (a8 (aQ 11 (fA Iq (af (fI 0) (af (f2 oJ (f2 oJ (ai 0) (fI 1)) (f2 bG (ai 2) (fI 4))) aj)))) (a8 (eO (bp (f2 eB (f2 bG (f2 cP (ai 2) (fI 4)) (fI 8)) (fI 1))) (aQ 11 (f2 bG (f2 cP (ai 2) (fI 32)) (fI 60))) bo) h)))))))) [sF (.int many),sF (.int c),sF (.int o),sF (.lst (zs.map .str)),sF (.int day),sF (.lst (i7.map .str)),sF (.int m),none,none,none,none,none,none,none,none]=r:=by
 have Z5:=mod_lt (x:=c) (m:=18) (by decide);obtain⟨w,hw,ew⟩:=k8 (zs:=fz) (i:=c % 18) (by simp[fz];omega) (by simp[fz];omega);obtain⟨n,hn,Sl,Z6⟩:∃n:Int,(if(i7.length:Int)<3 then (i7.length:Int)else 3)=n/\0<n/\n<=i7.length:=by
  have:0<i7.length:=List.length_pos_iff.mpr hh;split
  ·exact⟨_,rfl,by omega,by omega⟩
  ·exact⟨_,rfl,by omega,by omega⟩
 have Z7:=mod_lt (x:=c / 18) (m:=n) Sl;obtain⟨b0,_,YC⟩:=k8 (zs:=i7) (i:=-1 - c / 18 % n) (by omega) (by omega);have h5:=mod_lt (x:=c / 324) (m:=5) (by decide);obtain⟨b1,_,YD⟩:=k8 (zs:=zs) (i:=c / 324 % 5) (by omega) (by omega);have Z8:=mod_lt (x:=c / 1620) (m:=5) (by decide);obtain⟨p,_,ep⟩:=k8 (zs:=zs) (i:=c / 1620 % 5) (by omega) (by omega);have Z9:=mod_lt (x:=o / 32) (m:=60) (by decide);obtain⟨f0,YE⟩:∃f0:Nat,(if many - 1 - o % 4 > 0 then many - 1 - o % 4 else 0)=(f0:Int):=by
  split
  ·exact⟨(many - 1 - o % 4).toNat,by omega⟩
  ·exact⟨0,rfl⟩
 obtain⟨f1,YF⟩:∃f1:Nat,o / 32 % 60=(f1:Int):=⟨(o / 32 % 60).toNat,by omega⟩;refine⟨w,if c / 54 % 6=1 then b1 else b0,p,if o / 4 % 8=1 then f1 else f0,hw,λh r hr=>?_⟩;refine cf (ds:=(fz.take 12).map .str) ?_ (dR _) (cf (ds:=fz.map .str) ?_ (dR _) (ga (.str w) (bw (.lst (fz.map .str)) (.int (c % 18)) rfl (by simp) ew) rfl (ga (.str b0) ?_ rfl (dC (ρ':=[sF (.int many),sF (.int c),sF (.int o),sF (.lst (zs.map .str)),sF (.int day),sF (.lst (i7.map .str)),sF (.int m),lT (fz.map .str),sF (.str w),sF (.str (if c / 54 % 6=1 then b1 else b0)),none,none,none,none,none]) ?_ (ga (.str p) ?_ rfl (ga (.int f0) ?_ rfl (dC ?_ hr)))))))
 ·have e1:∀(s:Str)(k:Nat),k<=100->Dt (fA bD (af (fS s) aj)) (fC (.int k)) [sF (.int many),sF (.int c),sF (.int o),sF (.lst (zs.map .str)),sF (.int day),sF (.lst (i7.map .str)),sF (.int m),none,none,none,none,none,none,none,none]=lT (List.replicate k (.str s)):=λs k hk=>by
   have h1:(k:Int)<=1000:=by omega
   have h2:k<=1000:=by omega
   have h3:∀n:Nat,(List.replicate n [D.str s]).flatten=List.replicate n (.str s):=λn=>by
    induction n with
    |zero=>rfl
    |succ n ih=>rw[List.replicate_succ,List.flatten_cons,ih,List.replicate_succ];rfl
   simp[sizeLine,h1,h2,h3]
  have z:∀n:Nat,n<=100->n<=sizeLine:=λn h=>dm (by omega);refine iD (x:=.lst ((fz.take 7).map .str)) (y:=.lst (((fz.drop 7).take 5).map .str)) (b1:=true) (b2:=true) (iD (x:=.lst ((fz.take 5).map .str)) (y:=.lst (List.replicate 2 (.str "paper"))) (b1:=true) (b2:=true) (e1 _ 5 (by decide)) (e1 _ 2 (by decide)) ?_) (aL (((fz.drop 7).take 5).map .str) rfl (g9 _ (by simp[fz]))) ?_
  ·refine(if_pos (c:=7<=sizeLine) (e:=none) (z 7 (by decide))).trans ?_;rfl
  ·refine(if_pos (c:=12<=sizeLine) (e:=none) (z 12 (by decide))).trans ?_;rfl
 ·refine iD (x:=.lst ((fz.take 12).map .str)) (y:=.lst ((fz.drop 12).map .str)) (b1:=false) (b2:=true) rfl (aL ((fz.drop 12).map .str) rfl (g9 _ (by decide))) ?_;refine(if_pos (c:=18<=sizeLine) (e:=none) (dm (by decide))).trans ?_;rfl
 ·refine bw (.lst (i7.map .str)) (.int (-1 - c / 18 % n)) rfl ?_ YC;refine bw (.int (-1)) (.int (c / 18 % n)) rfl ?_ rfl;refine bw (.int (c / 18)) (.int n) (by simp) (by simp[hn]) ?_;show(if decide ((0:Int)<n)=true then _ else _)=_;rw[if_pos (decide_eq_true Sl)]
 ·by_cases hx:c / 54 % 6=1
  ·rw[if_pos hx];exact kW (cY (by simp[hx])) (qu (d:=.str b1) (b:=false) (bw (.lst (zs.map .str)) (.int (c / 324 % 5)) rfl (by simp) YD) rfl)
  ·rw[if_neg hx];exact m5 (cY (by simp[hx])) rfl
 ·exact bw (.lst (zs.map .str)) (.int (c / 1620 % 5)) rfl (by simp) ep
 ·show some (D.int (if many - 1 - o % 4 > 0 then many - 1 - o % 4 else 0),false)=_;rw[YE]
 ·by_cases hx:o / 4 % 8=1
  ·simp only[if_pos hx];exact kW (cY (by simp[hx])) (qu (d:=.int f1) (b:=false) (by simp[YF]) rfl)
  ·simp only[if_neg hx];exact m5 (cY (by simp[hx])) rfl
theorem o9 {ns:List Int}{i:Int}(h1:0<=i)(h2:i<ns.length):∃m∈ns,b7 (.lst (ns.map .int)) (.int i)=sF (.int m):=by
 have h:i.toNat<ns.length:=by omega
 refine⟨ns.getD i.toNat 0,?_,wt h1 h⟩;rw[vF,vU h];exact List.getElem_mem h
theorem rG (h : -1000<=a/\a<=1000):Mx (.int a) (.int b)=sF (.int (a*b)):=by
 have : -18446744073709551616<a/\a<18446744073709551616:=by omega
 simp[this]
theorem cS (e:ρ[i]? = some (sF (.str a)))(h:decide (a=b)=false:=by decide +kernel):bp (f2 eB (ai i) (fS b)) ρ=some false:=bM (a:=a) (bb:=false) (by simp[e]) h
theorem AH (e:ρ[i]? = some (sF (.str a)))(h:decide (a=b)=true:=by decide +kernel):bp (f2 eB (ai i) (fS b)) ρ=some true:=bM (a:=a) (bb:=false) (by simp[e]) h
theorem yT (x:Bool)(e:ρ[i]? = some (sF (.str a)))(h:decide (a∈[b,c])=x:=by decide +kernel):bp (f2 z9 (ai i) (fA aY (af (fS b) (af (fS c) aj)))) ρ=some x:=cY (bw (.str a) (.tup ([b,c].map .str)) (by simp[e]) (by simp[sizeLine]) (by rw[jn,h]))
theorem Lh {l:List Int}{x:Int}(h:x∈l)(hl:l.all (λy=>decide (0<=y/\y.toNat∈MS))=true):∃m:Nat,x=m/\m∈MS:=by
 have:=of_decide_eq_true (uR hl x h);exact⟨x.toNat,by omega,this.2⟩
theorem Jo (many c o day m:Int)(zs i7:List Str)(hz:zs.length=7)(hh:i7≠[]):
  ∃k r,qR [.int many,.int c,.int o,.lst (zs.map .str),.int day,.lst (i7.map .str),.int m]=sF (.tup (.str k::r))/\Dd k r/\k ≠ "root":=by
 obtain⟨w,oD,p,Lz,hw,pre⟩:=Gq many c o day m zs i7 hz hh;obtain⟨s,es⟩:=AG (o / 32) day m;have h8:=mod_lt (x:=c / 8100) (m:=8) (by decide);obtain⟨ZA,U2,YG⟩:=o9 (ns:=[3,1,7,2,255,5,1,3]) (i:=c / 8100 % 8) h8.1 h8.2;obtain⟨ZB,U3,Wq⟩:=o9 (ns:=[1,1,3,2,4,5,128,7]) (i:=c / 8100 % 8) h8.1 h8.2;obtain⟨m1,rfl,OI⟩:=Lh U2 (by decide);obtain⟨m2,rfl,U4⟩:=Lh U3 (by decide);have h4:=mod_lt (x:=o / 2560) (m:=4) (by decide);obtain⟨dv,U5,ed⟩:=o9 (ns:=[5,5,5,10]) (i:=o / 2560 % 4) h4.1 h4.2;have ON:0<dv:=by simp only[List.mem_cons,List.not_mem_nil,or_false]at U5;omega
 have h2:=mod_lt (x:=o / 256) (m:=2) (by decide);obtain⟨wv,YH,Sm,Wr⟩:∃wv,b7 (.lst [.non,.str p]) (.int (o / 256 % 2))=some (wv,false)/\bu wv=true/\aq 5 wv=true:=by
  rcases (show o / 256 % 2=0∨o / 256 % 2=1 by omega)with h|h
  ·rw[h];exact⟨.non,by simp[Eh],rfl,by simp⟩
  ·rw[h];exact⟨.str p,by simp[Ei],rfl,by simp⟩
 have GO:=mod_lt (x:=o) (m:=2) (by decide);have OA:=mod_lt (x:=o) (m:=2) (by decide);obtain⟨off,_,eo⟩:=k8 (zs:=zs) (i:=5+o % 2) (by omega) (by omega);obtain⟨Rr,_,YI⟩:=k8 (zs:=zs) (i:=5+o % 2) (by omega) (by omega);have ZC:=mod_lt (x:=o / 32) (m:=3) (by decide);have U6:∀(ρ:DL.Env),ρ[2]? = some (sF (.int o))->ρ[4]? = some (sF (.int day))->ρ[6]? = some (sF (.int m))->fA gp (af (f2 cP (ai 2) (fI 32)) (fV 4 (fV 6 aj))) ρ=some (iB s,false):=λρ q1 q2 q3=>
  aL [.int (o / 32),.int day,.int m] (by simp[q1,q2,q3]) es
 have Rt:∀(ρ:DL.Env),ρ[2]? = some (sF (.int o))->ρ[3]? = some (sF (.lst (zs.map .str)))->f2 b7 (ai 3) (f2 bS (fI 5) (f2 bG (ai 2) (fI 2))) ρ=sF (.str off):=λρ q1 q2=>bw (.lst (zs.map .str)) (.int (5+o % 2)) (by simp[q2]) (by simp[q1]) eo;have U7:∀(ns:List Int)(M:Nat)(ρ:DL.Env)(fl:FE),fl ρ=lT (ns.map .int)->ρ[1]? = some (sF (.int c))->b7 (.lst (ns.map .int)) (.int (c / 8100 % 8))=sF (.int M)->f2 b7 fl (f2 bG (f2 cP (ai 1) (fI 8100)) (fI 8)) ρ=sF (.int M):=λns M ρ fl e1 q e=>iD (x:=.lst (ns.map .int)) (y:=.int (c / 8100 % 8)) (b1:=true) (b2:=false) e1 (by simp[q]) e;have Ws:∀(ρ:DL.Env),ρ[2]? = some (sF (.int o))->ρ[10]? = some (sF (.str p))->f2 b7 (fA bD (af (fC .non) (fV 10 aj))) (f2 bG (f2 cP (ai 2) (fI 256)) (fI 2)) ρ=some (wv,false):=λρ q1 q2=>iD (x:=.lst [.non,.str p]) (y:=.int (o / 256 % 2)) (b1:=true) (b2:=false) (by simp[sizeLine,q2]) (by simp[q1]) YH;rcases D8 hw with rfl|rfl|rfl|rfl|rfl|rfl|rfl|rfl|rfl|rfl|rfl
 ·refine⟨_,[.int day,.str oD,.str p,.int m1,iB s,.int (o / 256 % dv)],aw rfl (pre _ _ ?_),.leave _ _ _ _ OI _ _,by decide +kernel⟩;refine bB (AH rfl) (ga (.int m1) (U7 [3,1,7,2,255,5,1,3] _ _ _ (by simp[sizeLine]) rfl YG) rfl (ga (.int (o / 256 % dv)) ?_ rfl (ay (aL [.str "leave",.int day,.str oD,.str p,.int m1,iB s,.int (o / 256 % dv)] (cj rfl (cj rfl (cj rfl (cj rfl (cj rfl (aF (U6 _ rfl rfl rfl) (cj rfl rfl))))))) (c8 _ (by simp))))));refine bw (.int (o / 256)) (.int dv) (by simp) (iD (x:=.lst (([5,5,5,10]:List Int).map .int)) (y:=.int (o / 2560 % 4)) (b1:=true) (b2:=false) (by simp[sizeLine]) (by simp) ed) ?_;show(if decide ((0:Int)<dv)=true then _ else _)=_;rw[if_pos (decide_eq_true ON)]
 ·refine⟨_,[.int day,.str oD,.int m2,iB s,wv,.tup [.str p]],aw rfl (pre _ _ ?_),.paper _ (.inl rfl) _ _ _ U4 _ _ (by simp[Sm]) (by simp[Wr]),by decide +kernel⟩;exact aA (cS rfl) (bB (de (p:=true) (q:=false) (AH rfl) λ_=>cS rfl) (ga (.int m2) (U7 [1,1,3,2,4,5,128,7] _ _ _ (by simp[sizeLine]) rfl Wq) rfl (ga (.tup [.str "paper",.int day,.str oD,.int m2,iB s,wv]) (aL [.str "paper",.int day,.str oD,.int m2,iB s,wv] (cj rfl (cj rfl (cj rfl (cj rfl (aF (U6 _ rfl rfl rfl) (aF (Ws _ rfl rfl) rfl)))))) (c8 _ (by simp))) (by simp[jq,Sm]) (aA (cS rfl) (ay (bw (.tup [.str "paper",.int day,.str oD,.int m2,iB s,wv]) (.tup [.tup [.str p]]) rfl (by simp[sizeLine]) (by simp[sizeLine])))))))
 ·refine⟨_,[.int day,.str oD,.int m2,iB s,wv,.int Lz,.tup [.tup [.int 0,.str p]]],aw rfl (pre _ _ ?_),.paper _ (.inr rfl) _ _ _ U4 _ _ (by simp[Sm]) (by simp[Wr]),by decide +kernel⟩;exact aA (cS rfl) (bB (de (p:=false) (q:=true) (cS rfl) λ_=>AH rfl) (ga (.int m2) (U7 [1,1,3,2,4,5,128,7] _ _ _ (by simp[sizeLine]) rfl Wq) rfl (ga (.tup [.str "like",.int day,.str oD,.int m2,iB s,wv]) (aL [.str "like",.int day,.str oD,.int m2,iB s,wv] (cj rfl (cj rfl (cj rfl (cj rfl (aF (U6 _ rfl rfl rfl) (aF (Ws _ rfl rfl) rfl)))))) (c8 _ (by simp))) (by simp[jq,Sm]) (bB (AH rfl) (ay (bw (.tup [.str "like",.int day,.str oD,.int m2,iB s,wv]) (.tup [.int Lz,.tup [.tup [.int 0,.str p]]]) rfl (by simp[sizeLine]) (by simp[sizeLine])))))))
 ·exact⟨_,[.int day,.str oD,.int Lz],aw rfl (pre _ _ (aA (cS rfl) (aA (de (p:=false) (q:=false) (cS rfl) λ_=>cS rfl) (bB (yT true rfl) (ay (aL [.str "copy",.int day,.str oD,.int Lz] rfl (c8 _ (by simp)))))))),.copy _ (.inl rfl) _ _ _,by decide +kernel⟩
 ·exact⟨_,[.int day,.str oD,.int Lz],aw rfl (pre _ _ (aA (cS rfl) (aA (de (p:=false) (q:=false) (cS rfl) λ_=>cS rfl) (bB (yT true rfl) (ay (aL [.str "call",.int day,.str oD,.int Lz] rfl (c8 _ (by simp)))))))),.copy _ (.inr rfl) _ _ _,by decide +kernel⟩
 ·exact⟨_,[.int day,.str off,.str p],aw rfl (pre _ _ (aA (cS rfl) (aA (de (p:=false) (q:=false) (cS rfl) λ_=>cS rfl) (aA (yT false rfl) (bB (AH rfl) (ay (aL [.str "named",.int day,.str off,.str p] (cj rfl (cj rfl (aF (Rt _ rfl rfl) (cj rfl rfl)))) (c8 _ (by simp))))))))),.named _ _ _,by decide +kernel⟩
 ·exact⟨_,[.int day,.str oD],aw rfl (pre _ _ (aA (cS rfl) (aA (de (p:=false) (q:=false) (cS rfl) λ_=>cS rfl) (aA (yT false rfl) (aA (cS rfl) (aA (cS rfl) (aA (cS rfl) (ay (aL [.str "death",.int day,.str oD] rfl (c8 _ (by simp))))))))))),.three _ (.inl rfl) _ _,by decide +kernel⟩
 ·exact⟨_,[.int day,.str oD],aw rfl (pre _ _ (aA (cS rfl) (aA (de (p:=false) (q:=false) (cS rfl) λ_=>cS rfl) (aA (yT false rfl) (aA (cS rfl) (aA (cS rfl) (aA (cS rfl) (ay (aL [.str "lost",.int day,.str oD] rfl (c8 _ (by simp))))))))))),.three _ (.inr (.inl rfl)) _ _,by decide +kernel⟩
 ·exact⟨_,[.int day,.str oD],aw rfl (pre _ _ (aA (cS rfl) (aA (de (p:=false) (q:=false) (cS rfl) λ_=>cS rfl) (aA (yT false rfl) (aA (cS rfl) (aA (cS rfl) (aA (cS rfl) (ay (aL [.str "found",.int day,.str oD] rfl (c8 _ (by simp))))))))))),.three _ (.inr (.inr rfl)) _ _,by decide +kernel⟩
 ·refine⟨_,[.int day,.str oD,.str Rr,.str p,.int (day+o / 32 % 3*m)],aw rfl (pre _ _ (aA (cS rfl) (aA (de (p:=false) (q:=false) (cS rfl) λ_=>cS rfl) (aA (yT false rfl) (aA (cS rfl) (bB (AH rfl) (ay (aL [.str "chosen",.int day,.str oD,.str Rr,.str p,.int (day+o / 32 % 3*m)] ?_ (c8 _ (by simp)))))))))),.chosen _ _ _ _ _,by decide +kernel⟩;exact cj rfl (cj rfl (cj rfl (aF (bw (.lst (zs.map .str)) (.int (5+o % 2)) rfl (by simp) YI) (cj rfl (cj (bw (.int day) (.int (o / 32 % 3*m)) rfl (bw (.int (o / 32 % 3)) (.int m) (by simp) rfl (rG (by omega))) rfl) rfl)))))
 ·exact⟨_,[.int day,.str oD,.str off,.str p],aw rfl (pre _ _ (aA (cS rfl) (aA (de (p:=false) (q:=false) (cS rfl) λ_=>cS rfl) (aA (yT false rfl) (aA (cS rfl) (aA (cS rfl) (bB (AH rfl) (ay (aL [.str "heir",.int day,.str oD,.str off,.str p] (cj rfl (cj rfl (cj rfl (aF (Rt _ rfl rfl) (cj rfl rfl))))) (c8 _ (by simp))))))))))),.heir _ _ _ _,by decide +kernel⟩
def bY (r:D):Prop:=∃h k aC,r=row h k aC/\Dd k aC
theorem bY.c (g:bY r):w4 r:=by obtain⟨h,k,aC,e,d⟩:=g;exact⟨h,k,aC,e,d.cd⟩
theorem bY.flat (g:bY r):bu r=true:=g.c.rp.flat
theorem Qw (c1 m most:Int)(xs zs i7:List Str)(ns:List Int)(ab:List D)(hz:zs.length=7)(i:Nat)(hi:i<2)(hr:ab.length<=100)(hh:i7.length<=100)(v8 v9 wN ux:OB):
  ∃r1 r2 p w8 w9 Oc Od,(bY r1/\bc r1=true/\zs[5+i]? = some (a7 0 r1))/\(bY r2/\bc r2=false)/\nw [sF (.lst (ns.map .int)),sF (.lst (zs.map .str)),sF (.int m),sF (.int most),sF (.int c1),lT ab,lT (i7.map .str),sF (.int i),v8,v9,wN,ux,none,none,none]
   = some (.nx [sF (.lst (ns.map .int)),sF (.lst (zs.map .str)),sF (.int m),sF (.int most),sF (.int c1),lT (ab++[r1]++[r2]),lT ((i7++[p]).map .str),sF (.int i),w8,w9,Oc,Od,none,none,none]):=by
 have h3:=mod_lt (x:=c1 / (64+9*i)) (m:=3) (by decide);obtain⟨rl,_,YJ⟩:=k8 (zs:=[("open" : Str),"first","last"]) (i:=c1 / (64+9*i) % 3) (by simp;omega) (by simp;omega);have h4:=mod_lt (x:=c1 / (2+8*i)) (m:=4) (by decide);obtain⟨YK,Ru,U8⟩:=o9 (ns:=[7,255,3,15]) (i:=c1 / (2+8*i) % 4) h4.1 h4.2;obtain⟨mt,U9,YL⟩:∃mt:Nat,YK=mt/\mt∈MR:=by
  simp only[List.mem_cons,List.not_mem_nil,or_false]at Ru;rcases Ru with rfl|rfl|rfl|rfl<;>first|exact⟨7,rfl,by decide⟩|exact⟨255,rfl,by decide⟩|exact⟨3,rfl,by decide⟩|exact⟨15,rfl,by decide⟩
 have Wt:=U8;rw[U9]at Wt;have Sc:=mod_lt (x:=c1 / (31+i)) (m:=3) (by decide);obtain⟨dv,U5,ed⟩:=o9 (ns:=[5,5,10]) (i:=c1 / (31+i) % 3) Sc.1 Sc.2;have ON:0<dv:=by simp only[List.mem_cons,List.not_mem_nil,or_false]at U5;omega
 obtain⟨of,YM,Wu⟩:∃of,zs[5+i]? = some of/\b7 (.lst (zs.map .str)) (.int (5+i))=sF (.str of):=by
  have hl:5+i<zs.length:=by omega
  refine⟨zs[5+i],vU hl,?_⟩;have DV:((5:Int)+i).toNat<(zs.map D.str).length:=by rw[vI];omega
  rw[DL.A6 (by omega) DV,show((5:Int)+i).toNat=5+i by omega,vF,vA,vU hl];rfl
 obtain⟨pn,_,Wv⟩:=k8 (zs:=zs) (i:=i) (by omega) (by omega);have YN:(0:Int)<64+9*i/\(64:Int)+9*i<1073741824:=by omega
 have b2:(0:Int)<2+8*i/\(2:Int)+8*i<1073741824:=by omega
 have UA:(0:Int)<512+i/\(512:Int)+i<1073741824:=by omega
 have Rv:(0:Int)<1024+5*i/\(1024:Int)+5*i<1073741824:=by omega
 have YO:(0:Int)<31+i/\(31:Int)+i<1073741824:=by omega
 let t:Int:=if c1 / (512+i) % 8=1 then 1 else 0;have ht:0<=t/\t<=1:=by show 0<=(if _ then (1:Int)else 0)/\(if _ then (1:Int)else 0)<=1;split<;>omega
 refine⟨row (t*4*m) ("root" : Str) [.str of,.int mt,.int (c1 / (1024+5*i) % dv),.str rl],row 0 ("named" : Str) [.int 0,.str of,.str pn],pn,sF (.str rl),sF (.int mt),sF (.int (t*4*m)),sF (.int (c1 / (1024+5*i) % dv)),⟨⟨_,_,_,rfl,.root _ _ _ YL _⟩,decide_eq_true rfl,YM⟩,⟨⟨_,_,_,rfl,.named _ _ _⟩,show decide (("named" : Str) = "root")=false by decide +kernel⟩,?_⟩;refine ga (.str rl) ?_ rfl (ga (.int mt) ?_ rfl (ga (.int (t*4*m)) ?_ rfl (ga (.int (c1 / (1024+5*i) % dv)) ?_ rfl (Lb (ds:=ab) (d:=row (t*4*m) ("root" : Str) [.str of,.int mt,.int (c1 / (1024+5*i) % dv),.str rl]) (b:=false) rfl ?_ rfl (bK (by omega)) (Lb (ds:=ab++[row (t*4*m) ("root" : Str) [.str of,.int mt,.int (c1 / (1024+5*i) % dv),.str rl]]) (d:=row 0 ("named" : Str) [.int 0,.str of,.str pn]) (b:=false) rfl ?_ rfl (bK (by simp;omega)) ((j8 (ds:=i7.map .str) (d:=.str pn) (b:=false) rfl ?_ rfl (bK (by simp;omega))).trans ?_))))))
 ·exact iD (x:=.lst (([("open" : Str),"first","last"]:List Str).map .str)) (y:=.int (c1 / (64+9*i) % 3)) (b1:=true) (b2:=false) (by simp[sizeLine]) (by simp[YN]) YJ
 ·exact iD (x:=.lst (([7,255,3,15]:List Int).map .int)) (y:=.int (c1 / (2+8*i) % 4)) (b1:=true) (b2:=false) (by simp[sizeLine]) (by simp[b2]) Wt
 ·refine bw (.int (t*4)) (.int m) (bw (.int t) (.int 4) ?_ rfl (by simp)) rfl (rG (by omega));refine aL [.bl (decide (c1 / (512+i) % 8=1))] (cj (bw (.int (c1 / (512+i) % 8)) (.int 1) (by simp[UA]) rfl (by simp)) rfl) ?_;simp[t]
 ·refine bw (.int (c1 / (1024+5*i))) (.int dv) (by simp[Rv]) (iD (x:=.lst (([5,5,10]:List Int).map .int)) (y:=.int (c1 / (31+i) % 3)) (b1:=true) (b2:=false) (by simp[sizeLine]) (by simp[YO]) ed) ?_;show(if decide ((0:Int)<dv)=true then _ else _)=_;rw[if_pos (decide_eq_true ON)]
 ·refine aL [.int (t*4*m),.tup [.str "root",.str of,.int mt,.int (c1 / (1024+5*i) % dv),.str rl]] (cj rfl (cj (aL [.str "root",.str of,.int mt,.int (c1 / (1024+5*i) % dv),.str rl] (cj rfl (aF (bw (.lst (zs.map .str)) (.int (5+i)) rfl (by simp) Wu) (cj rfl (cj rfl (cj rfl rfl))))) (c8 _ (by simp))) rfl)) (c8 _ (by simp))
 ·refine aL [.int 0,.tup [.str "named",.int 0,.str of,.str pn]] (cj rfl (cj (aL [.str "named",.int 0,.str of,.str pn] (cj rfl (cj rfl (aF (bw (.lst (zs.map .str)) (.int (5+i)) rfl (by simp) Wu) (aF (bw (.lst (zs.map .str)) (.int i) rfl rfl Wv) rfl)))) (c8 _ (by simp))) rfl)) (c8 _ (by simp))
 ·exact bw (.lst (zs.map .str)) (.int i) rfl rfl Wv
 ·simp
noncomputable def lr (ab:List D):List Str:=(ab.filter bc).map (a7 0)
theorem nH (ab:List D)(r:D):lr (ab++[r])=lr ab++if bc r=true then [a7 0 r]else []:=by
 unfold lr;rw[List.filter_append,uW,List.filter_cons];split
 ·rename_i h;rfl
 ·rename_i h;rfl
theorem Qx (c1 m most:Int)(zs i7:List Str)(ns:List Int)(ab:List D)(hz:zs.length=7)(i:Nat)(hi:i<100)(hr:ab.length<=200)(hh:i7≠[])(ZD:i7.length<=200)(v8 v9 wN ux z6 Rw Rx:OB):
  ∃r1 rW L0 Sn So,(bY r1/\bc r1=false)/\rW≠[]/\rW.length<=i7.length+1/\nz [sF (.lst (ns.map .int)),sF (.lst (zs.map .str)),sF (.int m),sF (.int most),sF (.int c1),lT ab,lT (i7.map .str),sF (.int i),v8,v9,wN,ux,z6,Rw,Rx]
   = some (.nx [sF (.lst (ns.map .int)),sF (.lst (zs.map .str)),sF (.int m),sF (.int most),sF (.int c1),lT (ab++[r1]),lT (rW.map .str),sF (.int i),v8,v9,wN,ux,L0,Sn,So]):=by
 obtain⟨ca,YQ,ZE⟩:=iN ns (5+i);obtain⟨cb,YR,ZF⟩:=iN ns (30+i);obtain⟨cc,YS,ZG⟩:=iN ns (60+i);have h3:=mod_lt (x:=ca / 7) (m:=3) (by decide);obtain⟨day,wM⟩:∃day:Int,((i:Int) / 2+ca / 7 % 3)*m=day:=⟨_,rfl⟩;obtain⟨k,r,ed,hD,Uy⟩:=Jo ab.length cb cc day m zs i7 hz hh;have YT:=λh=>hD.had3 h;have YU:=λh=>hD.had4 h;have h6:=mod_lt (x:=ca / 21) (m:=6) (by decide);obtain⟨tv,YV,YW⟩:=o9 (ns:=[0,0,0,0,1,4]) (i:=ca / 21 % 6) h6.1 h6.2;have Uf : -1000<=tv/\tv<=1000:=by simp only[List.mem_cons,List.not_mem_nil,or_false]at YV;omega
 have Q6:bu (.tup (.str k::r))=true:=by simp[hD.flat]
 have e4:∀(ρ:DL.Env),ρ[14]? = some (sF (.tup (.str k::r)))->du 14 0 ρ=sF (.str k):=λρ h=>bw (.tup (.str k::r)) (.int 0) (by simp[h]) rfl (by simp[Eh]);have e1:∀(b:Bool),decide (k = "leave" ∨ k = "named")=b->bp (f2 z9 (du 14 0) (fA aY (af (fS "leave") (af (fS "named") aj)))) [sF (.lst (ns.map .int)),sF (.lst (zs.map .str)),sF (.int m),sF (.int most),sF (.int c1),lT ab,lT (i7.map .str),sF (.int i),v8,v9,wN,ux,sF (.int ca),sF (.int day),sF (.tup (.str k::r))]=some b:=λb hb=>cY (bw (.str k) (.tup (([("leave" : Str),"named"]:List Str).map .str)) (e4 _ rfl) (by simp[sizeLine]) (by rw[jn,←hb];simp));have at_:∀(j:Nat)(p:Str),r[j]? = some (.str p)->∀ρ:DL.Env,ρ[14]? = some (sF (.tup (.str k::r)))->f2 b7 (ai 14) (fC (.int ((j+1:Nat):Int))) ρ=sF (.str p):=λj p hp ρ hρ=>by
  have hl:j<r.length:=(vV hp).1;refine bw (.tup (.str k::r)) (.int ((j+1:Nat):Int)) (by simp[hρ]) rfl ?_;rw[DL.zO (by omega) (by simp;omega),show((j+1:Nat):Int).toNat=j+1 by omega,vF];show some ((r[j]?).getD .non,false)=_;rw[hp];rfl
 obtain⟨rW,UB,Ry,YX⟩:∃rW:List Str,rW≠[]/\rW.length<=i7.length+1/\∀(h:FS)(rr:Option Res),h [sF (.lst (ns.map .int)),sF (.lst (zs.map .str)),sF (.int m),sF (.int most),sF (.int c1),lT ab,lT (rW.map .str),sF (.int i),v8,v9,wN,ux,sF (.int ca),sF (.int day),sF (.tup (.str k::r))]=rr->a8 (eO (bp (f2 z9 (du 14 0) (fA aY (af (fS "leave") (af (fS "named") aj))))) (jV 6 (du 14 3)) bo) (a8 (eO (bp (f2 eB (du 14 0) (fS "chosen"))) (jV 6 (du 14 4)) bo) h) [sF (.lst (ns.map .int)),sF (.lst (zs.map .str)),sF (.int m),sF (.int most),sF (.int c1),lT ab,lT (i7.map .str),sF (.int i),v8,v9,wN,ux,sF (.int ca),sF (.int day),sF (.tup (.str k::r))]=rr:=by
  by_cases hx:k = "leave" ∨ k = "named"
  ·obtain⟨p,hp⟩:=YT hx;have QX:k ≠ "chosen":=by rcases hx with rfl|rfl<;>decide +kernel
   refine⟨i7++[p],by simp,by simp,λh rr hr=>dC (kW (e1 true (decide_eq_true hx)) (j8 (ds:=i7.map .str) (d:=.str p) (b:=false) rfl (at_ 2 p hp _ rfl) rfl (bK (by simp;omega)))) (aA (bM (a:=k) (bb:=false) (e4 _ rfl) (decide_eq_false QX)) ?_)⟩;rw[uW]at hr;exact hr
  ·by_cases hy:k = "chosen"
   ·obtain⟨p,hp⟩:=YU hy;refine⟨i7++[p],by simp,by simp,λh rr hr=>aA (e1 false (decide_eq_false hx)) (dC (kW (bM (a:=k) (bb:=false) (e4 _ rfl) (decide_eq_true hy)) (j8 (ds:=i7.map .str) (d:=.str p) (b:=false) rfl (at_ 3 p hp _ rfl) rfl (bK (by simp;omega)))) ?_)⟩;rw[uW]at hr;exact hr
   ·exact⟨i7,hh,by omega,λh rr hr=>aA (e1 false (decide_eq_false hx)) (aA (bM (a:=k) (bb:=false) (e4 _ rfl) (decide_eq_false hy)) hr)⟩
 refine⟨row (day+tv*m) k r,rW,sF (.int ca),sF (.int day),sF (.tup (.str k::r)),⟨⟨_,_,_,rfl,hD⟩,decide_eq_false Uy⟩,UB,Ry,?_⟩;refine ga (.int ca) (aL [.lst (ns.map .int),.int ((5+i:Nat):Int)] (by simp) YQ) rfl (ga (.int day) ?_ rfl (ga (.tup (.str k::r)) ?_ Q6 (YX _ _ ((j8 (ds:=ab) (d:=row (day+tv*m) k r) (b:=false) rfl ?_ (by simp[row,hD.flat]) (bK (by omega))).trans ?_))))
 ·refine bw (.int ((i:Int) / 2+ca / 7 % 3)) (.int m) (by simp) rfl ?_;rw[←wM];exact rG (by omega)
 ·refine aL [.int ab.length,.int cb,.int cc,.lst (zs.map .str),.int day,.lst (i7.map .str),.int m] (cj (by simp) (aF (aL [.lst (ns.map .int),.int ((30+i:Nat):Int)] (by simp) YR) (aF (aL [.lst (ns.map .int),.int ((60+i:Nat):Int)] (by simp) YS) (cj rfl (cj rfl (cj rfl (cj rfl rfl))))))) ed
 ·refine aL [.int (day+tv*m),.tup (.str k::r)] (cj (bw (.int day) (.int (tv*m)) rfl (bw (.int tv) (.int m) (iD (x:=.lst (([0,0,0,0,1,4]:List Int).map .int)) (y:=.int (ca / 21 % 6)) (b1:=true) (b2:=false) (by simp[sizeLine]) (by simp) YW) rfl (rG Uf)) rfl) (cj rfl rfl)) (c8 _ (by simp))
 ·simp
theorem Jp (ns:List Int)(zs:List Str)(hz:zs.length=7)(m:Int):∃ab:List D,qS [.lst (ns.map .int),.lst (zs.map .str),.int m,.int 18]=sF (.tup ab)/\(∀r∈ab,bY r)/\ab.length<=24/\lr ab=(zs.drop 5).take (lr ab).length:=by
 obtain⟨c1,e1,h1⟩:=iN ns 1;obtain⟨c2,e2,h2⟩:=iN ns 2;have OI:=mod_lt (x:=c1) (m:=2) (by decide);have U4:=mod_lt (x:=c2) (m:=18) (by decide);obtain⟨n1,Sl⟩:∃n1:Nat,1+c1 % 2=n1:=⟨(1+c1 % 2).toNat,by omega⟩;obtain⟨n2,UC⟩:∃n2:Nat,3+c2 % 18=n2:=⟨(3+c2 % 18).toNat,by omega⟩;obtain⟨ρ1,f1,L3,Rz,u7,u8,u9,UD,UE,rfl,g1,l1,k1,o1⟩:=qq (tg:=dE 7) (g:=nw) n1 (λi ρ=>∃(ab:List D)(i7:List Str)(v7 v8 v9 wN ux:OB),ρ=[sF (.lst (ns.map .int)),sF (.lst (zs.map .str)),sF (.int m),sF (.int 18),sF (.int c1),lT ab,lT (i7.map .str),v7,v8,v9,wN,ux,none,none,none]/\(∀r∈ab,bY r)/\ab.length=2*i/\i7.length=i/\lr ab=(zs.drop 5).take i)
  [sF (.lst (ns.map .int)),sF (.lst (zs.map .str)),sF (.int m),sF (.int 18),sF (.int c1),lT [],lT [],none,none,none,none,none,none,none,none] ⟨[],[],none,none,none,none,none,rfl,by simp,rfl,rfl,rfl⟩ (by
   rintro i ρ hi ⟨ab,i7,v7,v8,v9,wN,ux,rfl,g,l,k,o⟩;obtain⟨r1,r2,p,w8,w9,Oc,Od,q1,q2,e⟩:=Qw c1 m 18 [] zs i7 ns ab hz i (by omega) (by omega) (by omega) v8 v9 wN ux;refine⟨_,_,rfl,.inl e,ab++[r1]++[r2],i7++[p],_,w8,w9,Oc,Od,rfl,?_,by simp;omega,by simp[k],by rw[nH,nH,if_pos q1.2.1,if_neg (by rw[q2.2];decide),uQ,o,List.take_add_one,List.getElem?_drop,q1.2.2];rfl⟩;intro r hr;simp only[List.mem_append,List.mem_singleton]at hr;rcases hr with (hr|rfl)|rfl
   ·exact g r hr
   ·exact q1.1
   ·exact q2.1)
 obtain⟨ρ2,YY,L4,YZ,w7,L0,Sn,So,rfl,g2,l2,k2,k3,o2⟩:=qq (tg:=dE 7) (g:=nz) n2 (λi ρ=>∃(ab:List D)(i7:List Str)(v7 z6 Rw Rx:OB),ρ=[sF (.lst (ns.map .int)),sF (.lst (zs.map .str)),sF (.int m),sF (.int 18),sF (.int c1),lT ab,lT (i7.map .str),v7,u8,u9,UD,UE,z6,Rw,Rx]/\(∀r∈ab,bY r)/\ab.length=2*n1+i/\i7≠[]/\i7.length<=n1+i/\lr ab=(zs.drop 5).take n1)
  [sF (.lst (ns.map .int)),sF (.lst (zs.map .str)),sF (.int m),sF (.int 18),sF (.int c1),lT L3,lT (Rz.map .str),u7,u8,u9,UD,UE,none,none,none] ⟨L3,Rz,u7,none,none,none,rfl,g1,by omega,λe=>by rw[e]at k1;simp at k1;omega,by omega,o1⟩ (by
   rintro i ρ hi ⟨ab,i7,v7,z6,Rw,Rx,rfl,g,l,k,k',o⟩;obtain⟨r1,rW,L0,Sn,So,q1,q2,q3,e⟩:=Qx c1 m 18 zs i7 ns ab hz i (by omega) (by omega) k (by omega) u8 u9 UD UE z6 Rw Rx;refine⟨_,_,rfl,.inl e,ab++[r1],rW,_,L0,Sn,So,rfl,?_,by simp;omega,q2,by omega,by rw[nH,if_neg (by rw[q1.2];decide),uQ,o]⟩;intro r hr;simp only[List.mem_append,List.mem_singleton]at hr;rcases hr with hr|rfl
   ·exact g r hr
   ·exact q1.1)
 refine⟨L4,aw rfl (ga (.int c1) (aL [.lst (ns.map .int),.int ((1:Nat):Int)] (by simp) e1) rfl (cf (ds:=[]) (by simp[sizeLine]) rfl (cf (ds:=[]) (by simp[sizeLine]) rfl (dC (m6 (kJ (j:=n1) (b:=false) (by simp;omega) (by omega)) f1) (dC (m6 (kJ (j:=n2) (b:=false) ?_ (by omega)) YY) (ay (by simp))))))),g2,by omega,?_⟩
 ·refine bw (.int 3) (.int (c2 % 18)) rfl (bw (.int c2) (.int 18) (aL [.lst (ns.map .int),.int ((2:Nat):Int)] (by simp) e2) rfl (by simp)) ?_;rw[←UC];rfl
 ·have hl:(lr L4).length<=n1:=by rw[o2,List.length_take];omega
  rw[o2,List.length_take];congr 1;rw[List.length_drop];omega
theorem ui (a b:Nat):hZ [.int a,.int b]=sF (.bl (decide (a &&& b=b))):=by
 have:Builtin.bitAnd (a:Int) (b:Int)=((a &&& b:Nat):Int):=by simp[Builtin.bitAnd]
 simp[hZ,qK,this];omega
def iY (r:D):Nat:=(if kindOf r = "root" then gF 1 r else if kindOf r = "leave" then gF 3 r else gF 2 r).toNat
theorem fB (a:Int)(k:Str)(aC:List D):kindOf (row a k aC)=k:=rfl
noncomputable def eM:List Str:=[("leave" : Str),"paper","like"]
theorem rH (g:bY r)(h:bc r=true):∃a o rl,∃m:Nat,∃f:Int,r=row a ("root" : Str) [.str o,.int m,.int f,.str rl]/\m∈MR/\iY r=m:=by
 obtain⟨a,k,aC,rfl,d⟩:=g;have hk:k = "root":=of_decide_eq_true h;clear h;cases d with
 |root o rl m hm f=>exact⟨a,o,rl,m,f,rfl,hm,by unfold iY;rw[fB,if_pos rfl];rfl⟩
 |named=>exact cL hk
 |chosen=>exact cL hk
 |heir=>exact cL hk
 |three k fJ=>rcases fJ with rfl|rfl|rfl<;>exact cL hk
 |leave=>exact cL hk
 |paper k fJ=>rcases fJ with rfl|rfl<;>exact cL hk
 |copy k fJ=>rcases fJ with rfl|rfl<;>exact cL hk
theorem Cg (g:bY r)(h:bc r=true):au [r,.str "matters"]=sF (.int (iY r)):=by
 obtain⟨a,o,rl,m,f,rfl,_,e⟩:=rH g h;rw[e];exact bj (i:=1) cW rfl
theorem Nn {a:Int}{k:Str}{aC:List D}(d:Dd k aC)(h:k∈eM):iY (row a k aC)∈MS/\(∃i:Nat,oN gI (.str k) (.str "matters")=sF (.int i)/\aC[i]? = some (.int (iY (row a k aC))))/\(D.str k::aC).getD (3+if k = "leave" then 1 else 0) .non=.int (iY (row a k aC))/\(3+if k = "leave" then 1 else 0)<(D.str k::aC).length:=by
 cases d with
 |leave d b p m hm x f=>
  have e:iY (row a ("leave" : Str) [.int d,.str b,.str p,.int m,iB x,.int f])=m:=by unfold iY;rw[fB,if_neg (by decide +kernel),if_pos rfl];rfl
  rw[e];refine⟨hm,⟨3,cW,rfl⟩,?_,?_⟩
  ·rw[if_pos rfl];rfl
  ·rw[if_pos rfl];simp
 |paper k hk d b m hm x r hf hp=>
  have hl:k ≠ "leave":=by rcases hk with rfl|rfl<;>decide +kernel
  have hr:k ≠ "root":=by rcases hk with rfl|rfl<;>decide +kernel
  have e:iY (row a k (.int d::.str b::.int m::iB x::r))=m:=by unfold iY;rw[fB,if_neg hr,if_neg hl];rfl
  rw[e];refine⟨hm,⟨2,by rcases hk with rfl|rfl<;>exact cW,rfl⟩,?_,?_⟩
  ·rw[if_neg hl];rfl
  ·rw[if_neg hl];simp
 |root=>exact cL h
 |named=>exact cL h
 |chosen=>exact cL h
 |heir=>exact cL h
 |three k fJ=>rcases fJ with rfl|rfl|rfl<;>exact cL h
 |copy k fJ=>rcases fJ with rfl|rfl<;>exact cL h
theorem wG (g:bY r)(h:kindOf r∈eM):au [r,.str "matters"]=sF (.int (iY r)):=by
 obtain⟨a,k,aC,rfl,d⟩:=g;obtain⟨_,⟨i,h1,h2⟩,_⟩:=Nn (a:=a) d h;exact bj h1 h2
noncomputable def bN:List Str:=[("leave" : Str),"paper","like","copy"]
theorem jD (h:k∈bN∨k = "call"):dQ k=true:=by
 rw[qX];refine decide_eq_true ?_;rcases h with h|rfl
 ·have:∀k∈bN,k∈yI:=by decide +kernel
  exact this k h
 ·decide +kernel
theorem Jq {k:Str}{aC:List D}(d:Dd k aC)(h:dQ k=true):∃(dd:Int)(b:Str)(r:List D),aC=.int dd::.str b::r:=d.cd.deed.slg h
theorem Ch (g:bY r)(h:dQ (kindOf r)=true):au [r,.str "by"]=sF (.str (cQ r)):=by
 obtain⟨a,k,aC,rfl,d⟩:=g;obtain⟨dd,b,q,rfl⟩:=Jq d h;exact bj (i:=1) (Gb h) rfl
noncomputable def bP (K:KL):List D:=(K.filter λx=>bc x.1).map (·.1)
theorem yU:∀(l:List (cw×D))(a:List cw×List D),(a.1++l.map (·.1)).Nodup->l.foldl qg a=(a.1++l.map (·.1),a.2++l.map (·.2))
 |[],a,_=>by simp
 |p::l,a,h=>by
  have hn:p.1∉a.1:=by
   rw[uY,List.nodup_append]at h;exact λz=>h.2.2 _ z _ mX rfl
  have e:qg a p=(a.1++[p.1],a.2++[p.2]):=by unfold qg dA dB;rw[if_neg hn,if_neg hn]
  rw[List.foldl_cons,e,yU l _ (by rw[List.append_assoc];exact h)];simp
section
variable {K:KL}(hn:((bP K).map (a7 0)).Nodup)
include hn
theorem rJ:bT (mJ K)=((bP K).map λv=>(.inr (a7 0 v):cw),bP K):=by
 have e:mJ K=(bP K).map λv=>((.inr (a7 0 v):cw),v):=by unfold mJ bP;rw[uP];rfl
 have UC:((bP K).map λv=>(.inr (a7 0 v):cw)).Nodup:=by
  refine List.pairwise_map.mpr ((List.pairwise_map.mp hn).imp λh z=>h (Sum.inr.inj z))
 rw[e];unfold bT;rw[yU _ _ (by rw[uP];exact UC),uP,uP];simp only[List.nil_append];congr 1;exact List.map_id _
end
noncomputable def Jr (j:Nat):D->Int×Option Int
 |.tup [_,.tup (_::aC)]=>match aC[j]? with
  |some (.tup [.int s,.int u])=>(s,some u)
  |some (.tup [.int s,.non])=>(s,none)
  |_=>(0,none)
 |_=>(0,none)
theorem wH {h:Int}{k:Str}{aC:List D}{j:Nat}{x:Int×Option Int}(e:aC[j]? = some (iB x)):Jr j (row h k aC)=x:=by
 unfold Jr row;simp only[e];obtain⟨s,u⟩:=x;cases u<;>rfl
def ir (r:D):Int×Option Int:=if kindOf r = "leave" then Jr 4 r else Jr 3 r
def jr (r:D):Int:=if kindOf r = "root" then gF 2 r else gF 5 r
def nI (r:D):Bool:=decide (kindOf r = "leave")
theorem oA {r:D}(g:bY r)(h:kindOf r = "leave"):∃a d b p,∃m:Nat,∃x f,r=row a ("leave" : Str) [.int d,.str b,.str p,.int m,iB x,.int f]/\m∈MS/\iY r=m/\ir r=x/\jr r=f:=by
 obtain⟨a,k,aC,rfl,d⟩:=g;have hk:k = "leave":=h;clear h;cases d with
 |leave d b p m hm x f=>exact⟨a,d,b,p,m,x,f,rfl,hm,by unfold iY;rw[fB,if_neg (by decide +kernel),if_pos rfl];rfl,by unfold ir;rw[fB,if_pos rfl];exact wH rfl,by unfold jr;rw[fB,if_neg (by decide +kernel)];rfl⟩
 |root=>exact cL hk
 |named=>exact cL hk
 |chosen=>exact cL hk
 |heir=>exact cL hk
 |three k fJ=>rcases fJ with rfl|rfl|rfl<;>exact cL hk
 |paper k fJ=>rcases fJ with rfl|rfl<;>exact cL hk
 |copy k fJ=>rcases fJ with rfl|rfl<;>exact cL hk
theorem Js {a:Int}{k:Str}{aC:List D}(d:Dd k aC)(h:k∈eM):(∃i:Nat,oN gI (.str k) (.str "stretch")=sF (.int i)/\aC[i]? = some (iB (ir (row a k aC))))/\(D.str k::aC).getD (4+if k = "leave" then 1 else 0) .non=iB (ir (row a k aC))/\(4+if k = "leave" then 1 else 0)<(D.str k::aC).length:=by
 cases d with
 |leave d b p m hm x f=>
  have e:ir (row a ("leave" : Str) [.int d,.str b,.str p,.int m,iB x,.int f])=x:=by unfold ir;rw[fB,if_pos rfl];exact wH rfl
  rw[e,if_pos rfl];exact⟨⟨4,cW,rfl⟩,rfl,by simp⟩
 |paper k hk d b m hm x r hf hp=>
  have hl:k ≠ "leave":=by rcases hk with rfl|rfl<;>decide +kernel
  have e:ir (row a k (.int d::.str b::.int m::iB x::r))=x:=by unfold ir;rw[fB,if_neg hl];exact wH rfl
  rw[e,if_neg hl];exact⟨⟨3,by rcases hk with rfl|rfl<;>exact cW,rfl⟩,rfl,by simp⟩
 |root=>exact cL h
 |named=>exact cL h
 |chosen=>exact cL h
 |heir=>exact cL h
 |three k fJ=>rcases fJ with rfl|rfl|rfl<;>exact cL h
 |copy k fJ=>rcases fJ with rfl|rfl<;>exact cL h
theorem Ci (g:bY r)(h:kindOf r∈eM):au [r,.str "stretch"]=some (iB (ir r),false):=by
 obtain⟨a,k,aC,rfl,d⟩:=g;obtain⟨⟨i,h1,h2⟩,_⟩:=Js (a:=a) d h;exact bj h1 h2
theorem wI (h:kindOf r = "leave"):kindOf r∈eM:=by rw[h];decide +kernel
theorem Li (g:bY r)(h:bc r=true∨kindOf r = "leave"):au [r,.str "further"]=sF (.int (jr r)):=by
 rcases h with h|h
 ·obtain⟨a,o,rl,m,f,rfl,_,_⟩:=rH g h;rw[show jr (row a ("root" : Str) [.str o,.int m,.int f,.str rl])=f by unfold jr;rw[fB,if_pos rfl];rfl];exact bj (i:=2) cW rfl
 ·obtain⟨a,d,b,p,m,x,f,e,_,_,_,ef⟩:=oA g h;rw[ef,e];exact bj (i:=5) cW rfl
def rK (r v:D):Bool:=decide (iY v &&& iY r=iY r) && !(nI r && decide (jr v<=jr r))
theorem yV (gr:bY r)(gv:bY v)(kr:kindOf r∈eM)(kv:bc v=true∨kindOf v = "leave"):∃d,iI [r,v]=some (d,false)/\Ef d .non=sF (.bl (rK r v)):=by
 have Za:au [v,.str "matters"]=sF (.int (iY v)):=kv.elim (Cg gv) λh=>wG gv (wI h);have t1:bp (fA hZ (af (fA au (fV 1 (af (fS "matters") aj))) (af (fA au (fV 0 (af (fS "matters") aj))) aj))) [some (r,false),some (v,false)]=some (decide (iY v &&& iY r=iY r)):=cY (aL [.int (iY v),.int (iY r)] (aF (aL [v,.str "matters"] rfl Za) (aF (aL [r,.str "matters"] rfl (wG gr kr)) rfl)) (ui _ _));have t2:bp (f2 eB (fA aJ (fV 0 aj)) (fS "leave")) [some (r,false),some (v,false)]=some (nI r):=bM (a:=kindOf r) (bb:=false) (aL [r] rfl (iX gr.c)) rfl;have t3:nI r=true->bp (f2 SJ (fA au (fV 0 (af (fS "further") aj))) (fA au (fV 1 (af (fS "further") aj)))) [some (r,false),some (v,false)]=some (decide (jr v<=jr r)):=λh=>cY (bw (.int (jr r)) (.int (jr v)) (aL [r,.str "further"] rfl (Li gr (.inr (of_decide_eq_true h)))) (aL [v,.str "further"] rfl (Li gv kv)) rfl);have t4:=dD t2 t3;unfold rK;cases hA:decide (iY v &&& iY r=iY r) with
 |false=>exact⟨.str "matters",aw rfl (bB (cu (p:=false) (t1.trans (by rw[hA]))) (ay rfl)),rfl⟩
 |true=>
  cases hB:(nI r && decide (jr v<=jr r)) with
  |true=>exact⟨.str "further",aw rfl (aA (cu (p:=true) (t1.trans (by rw[hA]))) (bB (t4.trans (by rw[hB])) (ay rfl))),rfl⟩
  |false=>exact⟨.non,aw rfl (aA (cu (p:=true) (t1.trans (by rw[hA]))) (aA (t4.trans (by rw[hB])) (ay rfl))),rfl⟩
theorem rL (h:k∈eM):k∈bN:=by
 have:∀k∈eM,k∈bN:=by decide +kernel
 exact this k h
theorem iO (h:kindOf r∈eM):bc r=false:=by
 have:∀k∈eM,decide (k = "root")=false:=by decide +kernel
 exact this _ h
theorem rM (g:bY r)(h:bc r=false):aO [r]=sF (.int (az r)):=by
 have:=qZ g.c;unfold sr at this;rwa [h,if_neg (by decide)]at this
def sv (cs:List Cl)(r v:D):Bool:=iM cs (a7 0 v) (a7 3 v) (cQ r) (az r) && rK r v
theorem Jt (cs:List Cl)(wP:cs.length<=60)(gr:bY r)(gv:bY v)(kr:kindOf r∈eM)(hv:bc v=true):∃d,gK [.lst (cs.map aR),r,v]=some (d,false)/\Ef d .non=sF (.bl (sv cs r v)):=by
 obtain⟨d,e1,e2⟩:=yV gr gv kr (.inl hv);have t1:bp (fA cH (fV 0 (fV 2 (af (fA au (fV 1 (af (fS "by") aj))) (af (fA aO (fV 1 aj)) aj))))) [sF (.lst (cs.map aR)),some (r,false),some (v,false)]=some (iM cs (a7 0 v) (a7 3 v) (cQ r) (az r)):=by
  refine cY (aL [.lst (cs.map aR),v,.str (cQ r),.int (az r)] (cj rfl (cj rfl (aF (aL [r,.str "by"] rfl (Ch gr (jD (.inl (rL kr))))) (aF (aL [r] rfl (rM gr (iO kr))) rfl)))) ?_);obtain⟨a,o,rl,m,f,rfl,_,_⟩:=rH gv hv;exact wB cs wP _ _
 unfold sv;cases hA:iM cs (a7 0 v) (a7 3 v) (cQ r) (az r) with
 |false=>exact⟨.str "holder",aw rfl (bB (cu (p:=false) (t1.trans (by rw[hA]))) (ay rfl)),rfl⟩
 |true=>exact⟨d,aw rfl (aA (cu (p:=true) (t1.trans (by rw[hA]))) (ay (aL [r,v] rfl e1))),e2⟩
def Gr (cs:List Cl)(r v:D):Int:=match jK cs (a7 0 v) (a7 3 v) (az r) with
 |.tup [_,_,.int n]=>n
 |_=>0
theorem Gs (h:iM cs o rl p day=true):∃n:Int,jK cs o rl day=.tup [.str "one",.str p,.int n]:=by
 unfold iM jK at h;unfold jK;generalize O3 cs o day=al at h ⊢;cases al with
 |nil=>
  have h:bA (.tup [.str "none"]) (.tup [.str "one",.str p])=true:=h;simp[cZ]at h
 |cons b r=>
  rw[o8]at h ⊢;split at h
  ·have h:bA (.tup [.str "parted",.lst ((lK (b::r)).map .str)]) (.tup [.str "one",.str p])=true:=h;simp[cZ]at h
  ·rename_i hn;rw[if_neg hn];have h:bA (.tup [.str "one",.str (io rl b r).p]) (.tup [.str "one",.str p])=true:=h;have h:(io rl b r).p=p:=by simpa [cZ]using h
   exact⟨_,by rw[h]⟩
theorem Ju (h:iM cs (a7 0 v) (a7 3 v) (cQ r) (az r)=true):jK cs (a7 0 v) (a7 3 v) (az r)=.tup [.str "one",.str (cQ r),.int (Gr cs r v)]:=by
 obtain⟨n,e⟩:=Gs h;unfold Gr;rw[e]
def No (cs:List Cl)(r v:D):D:=.tup [.str "office",.str (a7 0 v),.int (Gr cs r v)]
theorem rN (g:∀r∈ab,bY r)(hv:v∈bP (ak ab aa)):bY v/\bc v=true:=by
 obtain⟨x,hx,rfl⟩:=vO hv;obtain⟨h1,h2⟩:=vN hx;exact⟨g _ (vL (bq h1)),h2⟩
theorem Gu (hl:ab.length<=60)(aa:Int):(bP (ak ab aa)).length<=60:=by
 unfold bP;rw[vI];exact vR (vM _ _) (vR (c7 ab aa) hl)
theorem D9 {ab:List D}(g:∀r∈ab,bY r)(hl:ab.length<=60)(aa:Int)(hn:((bP (ak ab aa)).map (a7 0)).Nodup)(cs:List Cl)(wP:cs.length<=60){ri:Nat}{r:D}(hr:ab[ri]? = some r)(kr:kindOf r∈eM):
  ia [.tup ab,.int aa,.lst (cs.map aR),.int ri]=lT (((bP (ak ab aa)).filter (sv cs r)).map (No cs r)):=by
 have gC:gs ab:=⟨hl,λr hr=>(g r hr).c⟩;have gr:=g r (vL hr);have R0:=Gu hl aa;have h1:=gE (fi:=ql (fA gb (fV 0 (fV 1 aj)))) (nT:=1) (cap:=[2,4]) (tg:=dE 0) (c:=bp (f2 Ef (fA gK (fV 1 (fV 2 (fV 0 aj)))) (fC .non))) (fe:=ai 0)
  (ρ:=[sF (.tup ab),sF (.int aa),sF (.lst (cs.map aR)),sF (.int ri),some (r,false),none]) (bP (ak ab aa)) id (sv cs r) id
  (by show(fA gb _ _).bind _=_;rw[aL [.tup ab,.int aa] rfl (rz gC aa),rJ hn];simp) (by omega) λv hv=>by
   obtain⟨gv,Oe⟩:=rN g hv;obtain⟨d,e1,e2⟩:=Jt cs wP gr gv kr Oe;exact⟨[some (v,false),sF (.lst (cs.map aR)),some (r,false)],rfl,cY (bw d .non (aL [.lst (cs.map aR),r,v] rfl e1) rfl e2),λ_=>⟨false,rfl⟩⟩
 rw[List.map_id]at h1;have zy:bx ((bP (ak ab aa)).filter (sv cs r))=true:=bL λv hv=>(rN g (vN hv).1).1.flat;refine aw rfl (ga r (bw (.tup ab) (.int ri) rfl rfl (by simp[c6 hr])) gr.flat (cf h1 zy (ay ?_)));refine oi (fi:=cm (ai 5)) (nT:=1) (cap:=[2,4]) (tg:=dE 0) (fe:=fA aY (af (fS "office") (af (fA au (fV 0 (af (fS "office") aj))) (af (f2 b7 (fA dM (fV 1 (fV 0 (af (fA aO (fV 2 aj)) aj)))) (fI 2)) aj))))
  (ρ:=[sF (.tup ab),sF (.int aa),sF (.lst (cs.map aR)),sF (.int ri),some (r,false),lT ((bP (ak ab aa)).filter (sv cs r))]) ((bP (ak ab aa)).filter (sv cs r)) id (No cs r) (by simp) (vR (vM _ _) (by omega)) λv hv=>?_
 obtain⟨Uv,Zb⟩:=vN hv;obtain⟨gv,Oe⟩:=rN g Uv;have Ww:(iM cs (a7 0 v) (a7 3 v) (cQ r) (az r) && rK r v)=true:=Zb;rw[vC]at Ww;have hh:=Ju Ww.1;refine⟨[some (v,false),sF (.lst (cs.map aR)),some (r,false)],rfl,false,?_⟩;obtain⟨a,o,rl,m,f,rfl,_,_⟩:=rH gv Oe;refine aL [.str "office",.str o,.int (Gr cs r _)] (cj rfl (aF (aL [row a ("root" : Str) [.str o,.int m,.int f,.str rl],.str "office"] rfl k7) (cj (bw (jK cs o rl (az r)) (.int 2) (aL [.lst (cs.map aR),row a ("root" : Str) [.str o,.int m,.int f,.str rl],.int (az r)] (cj rfl (cj rfl (aF (aL [r] rfl (rM gr (iO kr))) rfl))) (mI cs wP _)) rfl ?_) rfl))) (c8 _ (by simp));have hh:jK cs o rl (az r)=_:=hh;rw[hh];simp[Vi]
noncomputable def Gv (day:Int)(x:Int×Option Int):Bool:=decide (x.1<=day) && (match x.2 with|none=>true|some u=>decide (day<u))
noncomputable def Qy:Option Int->Option Int->Bool
 |_,none=>true
 |none,some _=>false
 |some x,some y=>decide (x<=y)
theorem Jv (a b:Option Int):iV [uD a,uD b]=sF (.bl (Qy a b)):=by
 cases b with
 |none=>exact aw rfl (bB (cY (by simp[uD])) (ay (by cases a<;>rfl)))
 |some y=>
  refine aw rfl (aA (cY (by simp[uD])) (ay ?_));cases a with
  |none=>exact dJ (p:=false) (q:=false) (b1:=false) (by simp[uD]) (by simp)
  |some x=>exact dJ (p:=true) (q:=decide (x<=y)) (b1:=false) (by simp[uD]) λ_=>by simp[uD]
def Jw (a b:Int×Option Int):Bool:=decide (b.1<=a.1) && Qy a.2 b.2
theorem Np (a b:Int×Option Int):iJ [iB a,iB b]=sF (.bl (Jw a b)) :=
 aw rfl (ay (dJ (b1:=false) (by simp[iB,Eh]) λ_=>aL [uD a.2,uD b.2] (cj (by simp[iB,Ei]) (cj (by simp[iB,Ei]) rfl)) (Jv _ _)))
theorem Lj {ab:List D}{i:Nat}{r:D}(hr:ab[i]? = some r)(g:bY r)(h:bc r=false):eX [.tup ab,.int i]=sF (.tup [.int (az r),.int i]) :=
 aw rfl (ay (aL [.int (az r),.int i] (cj (aL [r] (by simp[c6 hr]) (rM g h)) rfl) (by simp[sizeLine])))
theorem Tn (a b c d:Int):LD (.tup [.int a,.int b]) (.tup [.int c,.int d])=sF (.bl (decide (a<c∨(a=c/\b<d)))):=by
 show(ba [.i a,.i b] [.i c,.i d]).map _=_;rw[Nl];rfl
theorem yW {ab:List D}{i j:Nat}{x y:D}(hx:ab[i]? = some x)(hy:ab[j]? = some y)(gx:bY x)(gy:bY y)(nx:bc x=false)(ny:bc y=false):fT [.tup ab,.int i,.int j]=sF (.bl (fK (x,i) (y,j))) :=
 aw rfl (ay (bw (.tup [.int (az x),.int i]) (.tup [.int (az y),.int j]) (aL [.tup ab,.int i] rfl (Lj hx gx nx)) (aL [.tup ab,.int j] rfl (Lj hy gy ny)) (Tn _ _ _ _)))
def AI (r:D)(ri:Nat)(x:D×Nat):Bool:=fK x (r,ri) && ((Gv (az r) (ir x.1) && Jw (ir r) (ir x.1)) && rK r x.1)
theorem Jx {ab:List D}{ri li:Nat}{r l:D}(hr:ab[ri]? = some r)(hl:ab[li]? = some l)(gr:bY r)(gl:bY l)(kr:kindOf r∈eM)(kl:kindOf l = "leave"):∃d,iK [.tup ab,.int ri,.int li]=some (d,false)/\Ef d .non=sF (.bl (AI r ri (l,li))):=by
 have nr:=iO kr;have nl:=iO (wI kl);obtain⟨d,e1,e2⟩:=yV gr gl kr (.inr kl);let E:DL.Env:=[sF (.tup ab),sF (.int ri),sF (.int li),some (r,false),some (iB (ir l),false)];have al:∀ρ:DL.Env,ρ[0]? = some (sF (.tup ab))->ρ[2]? = some (sF (.int li))->f2 b7 (ai 0) (ai 2) ρ=some (l,false):=λρ h0 h2=>bw (.tup ab) (.int li) (by simp[h0]) (by simp[h2]) (by simp[c6 hl]);have t1:bp (fA fT (fV 0 (fV 2 (fV 1 aj)))) E=some (fK (l,li) (r,ri)):=cY (aL [.tup ab,.int li,.int ri] rfl (yW hl hr gl gr nl nr));have t2:bp (fA jk (af (fA aO (fV 3 aj)) (fV 4 aj))) E=some (Gv (az r) (ir l)):=cY (aL [.int (az r),iB (ir l)] (aF (aL [r] rfl (rM gr nr)) (cj rfl rfl)) (BW _ _ _));have t3:bp (fA iJ (af (fA au (fV 3 (af (fS "stretch") aj))) (fV 4 aj))) E=some (Jw (ir r) (ir l)):=cY (aL [iB (ir r),iB (ir l)] (aF (aL [r,.str "stretch"] rfl (Ci gr kr)) (cj rfl rfl)) (Np _ _));have t4:=de (cu t2) λ_=>cu t3;have go:∀(h:FS)(res:Option Res),h E=res->a8 (aQ 3 (f2 b7 (ai 0) (ai 1))) (a8 (aQ 4 (fA au (af (f2 b7 (ai 0) (ai 2)) (af (fS "stretch") aj)))) h) [sF (.tup ab),sF (.int ri),sF (.int li),none,none]=res:=λh res k=>
  ga r (bw (.tup ab) (.int ri) rfl rfl (by simp[c6 hr])) gr.flat (ga (iB (ir l)) (aL [l,.str "stretch"] (aF (al _ rfl rfl) rfl) (Ci gl (wI kl))) (jq _) k)
 unfold AI;cases hA:fK (l,li) (r,ri) with
 |false=>exact⟨.str "order",aw rfl (go _ _ (bB (cu (p:=false) (t1.trans (by rw[hA]))) (ay rfl))),rfl⟩
 |true=>
  cases hB:(Gv (az r) (ir l) && Jw (ir r) (ir l)) with
  |false=>exact⟨.str "days",aw rfl (go _ _ (aA (cu (p:=true) (t1.trans (by rw[hA]))) (bB (t4.trans (by rw[←Bool.not_and,hB];rfl)) (ay rfl)))),rfl⟩
  |true=>exact⟨d,aw rfl (go _ _ (aA (cu (p:=true) (t1.trans (by rw[hA]))) (aA (t4.trans (by rw[←Bool.not_and,hB];rfl)) (ay (aL [r,l] (cj rfl (aF (al _ rfl rfl) rfl)) e1))))),e2⟩
theorem lM {ab:List D}{aa:Int}{i:Nat}{r:D}(hr:ab[i]? = some r)(g:bY r):fR [.tup ab,.int aa,.int i]=sF (.bl (decide (aS r<=aa) && nI r)):=by
 have Ho:cz [.tup ab,.int aa,.int i]=sF (.bl (decide (aS r<=aa))):=by
  obtain⟨a,k,aC,rfl,d⟩:=g;exact k6 hr aa
 exact aw rfl (ay (dJ (aL [.tup ab,.int aa,.int i] rfl Ho) λ_=>bw (.str (kindOf r)) (.str "leave") (aL [r] (cj (bw (.tup ab) (.int i) rfl rfl (by simp[c6 hr])) rfl) (iX g.c)) rfl (by simp[nI])))
noncomputable def rO (K:KL)(p:Str):KL:=(K.filter λx=>nI x.1).filter λx=>decide (a7 2 x.1=p)
theorem Gw (g:∀r∈ab,bY r)(h:x∈rO (ak ab aa) p):ab[x.2]? = some x.1/\bY x.1/\kindOf x.1 = "leave":=by
 obtain⟨h1,_⟩:=vN h;obtain⟨h2,h3⟩:=vN h1;exact⟨bq h2,g _ (vL (bq h2)),of_decide_eq_true h3⟩
theorem DA {ab:List D}(g:∀r∈ab,bY r)(hl:ab.length<=60)(aa:Int)(p:Str):kq [.tup ab,.int aa,.str p]=lT ((rO (ak ab aa) p).map λx=>.int x.2):=by
 have Rj:=c7 ab aa;have h1:=gE (fi:=cm (fA c9 (fV 0 (fV 1 aj)))) (nT:=1) (cap:=[0,1]) (tg:=dE 0) (c:=bp (fA fR (fV 1 (fV 2 (fV 0 aj))))) (fe:=ai 0)
  (ρ:=[sF (.tup ab),sF (.int aa),sF (.str p),none]) (ak ab aa) (λx=>.int x.2) (λx=>nI x.1) (λx=>.int x.2)
  (by show(fA c9 _ _).bind _=_;rw[aL [.tup ab,.int aa] rfl (ky ab (λr hr=>(g r hr).c.rp) (by omega) aa)];rfl) (by omega) λx hx=>by
   have hk:decide (aS x.1<=aa)=true:=(vN hx).2;have:=lM (aa:=aa) (bq hx) (g _ (vL (bq hx)));rw[hk,Bool.true_and]at this;exact⟨_,rfl,cY (aL [.tup ab,.int aa,.int x.2] rfl this),λ_=>⟨false,rfl⟩⟩
 have zy:bx (((ak ab aa).filter λx=>nI x.1).map λx=>D.int x.2)=true:=bL λd hd=>by obtain⟨x,_,rfl⟩:=vO hd;rfl
 refine aw rfl (cf h1 zy (ay ?_));refine gE (fi:=cm (ai 3)) (nT:=1) (cap:=[2,0]) (tg:=dE 0) (c:=bp (f2 eB (fA au (af (f2 b7 (ai 2) (ai 0)) (af (fS "person") aj))) (ai 1))) (fe:=ai 0)
  (ρ:=[sF (.tup ab),sF (.int aa),sF (.str p),lT (((ak ab aa).filter λx=>nI x.1).map λx=>.int x.2)]) ((ak ab aa).filter λx=>nI x.1) (λx=>.int x.2) (λx=>decide (a7 2 x.1=p)) (λx=>.int x.2) (by simp) (vR (vM _ _) (by omega)) λx hx=>?_
 obtain⟨h2,h3⟩:=vN hx;obtain⟨a,d,b,q,m,st,f,e,_⟩:=oA (g _ (vL (bq h2))) (of_decide_eq_true h3);refine⟨[sF (.int x.2),sF (.str p),sF (.tup ab)],rfl,cY (bw (.str (a7 2 x.1)) (.str p) (aL [x.1,.str "person"] (cj (bw (.tup ab) (.int x.2) rfl rfl (by simp[c6 (bq h2)])) rfl) ?_) rfl (by simp)),λ_=>⟨false,rfl⟩⟩;rw[e];exact bj (i:=2) cW rfl
theorem DB {ab:List D}(g:∀r∈ab,bY r)(hl:ab.length<=60)(aa:Int){ri:Nat}{r:D}(hr:ab[ri]? = some r)(kr:kindOf r∈eM):
  iW [.tup ab,.int aa,.int ri]=lT (((rO (ak ab aa) (cQ r)).filter (AI r ri)).map λx=>.tup [.str "leave",.int x.2]):=by
 have gr:=g r (vL hr);have Rj:=c7 ab aa;have Ro:(rO (ak ab aa) (cQ r)).length<=60:=vR (vM _ _) (vR (vM _ _) (by omega));have zy:bx ((rO (ak ab aa) (cQ r)).map λx=>D.int x.2)=true:=bL λd hd=>by obtain⟨x,_,rfl⟩:=vO hd;rfl
 refine aw rfl (cf (ds:=(rO (ak ab aa) (cQ r)).map λx=>.int x.2) (aL [.tup ab,.int aa,.str (cQ r)] (cj rfl (cj rfl (aF (aL [r,.str "by"] (cj (bw (.tup ab) (.int ri) rfl rfl (by simp[c6 hr])) rfl) (Ch gr (jD (.inl (rL kr))))) rfl))) (DA g hl aa _)) zy (ay ?_));refine gE (fi:=cm (ai 3)) (nT:=1) (cap:=[0,2]) (tg:=dE 0) (c:=bp (f2 Ef (fA iK (fV 1 (fV 2 (fV 0 aj)))) (fC .non))) (fe:=fA aY (af (fS "leave") (fV 0 aj)))
  (ρ:=[sF (.tup ab),sF (.int aa),sF (.int ri),lT ((rO (ak ab aa) (cQ r)).map λx=>.int x.2)]) (rO (ak ab aa) (cQ r)) (λx=>.int x.2) (AI r ri) (λx=>.tup [.str "leave",.int x.2]) (by simp) (by omega) λx hx=>?_
 obtain⟨h1,h2,h3⟩:=Gw g hx;obtain⟨d,e1,e2⟩:=Jx hr h1 gr h2 kr h3;exact⟨[sF (.int x.2),sF (.tup ab),sF (.int ri)],rfl,cY (bw d .non (aL [.tup ab,.int ri,.int x.2] rfl e1) rfl e2),λ_=>⟨false,aL [.str "leave",.int x.2] rfl (c8 _ (by simp))⟩⟩
abbrev Bs:=Option Str×Int
noncomputable def zC:Bs->D
 | (some o,n)=>.tup [.str "office",.str o,.int n]
 | (none,n)=>.tup [.str "leave",.int n]
noncomputable def yX:Bs->List At
 | (some o,n)=>[.i n,.s ("office" : Str),.s o,.i n]
 | (none,n)=>[.i n,.s ("leave" : Str),.i n]
theorem Gx (b:Bs):bu (zC b)=true:=by rcases b with⟨_|o,n⟩<;>rfl
theorem Jy (b:Bs):b7 (zC b) (.int (-1))=sF (.int b.2):=by rcases b with⟨_|o,n⟩<;>rfl
theorem Gy (a b:Bs):(ba (yX a) (yX b)).isSome=true:=by
 have NQ:("office" : Str) ≠ "leave":=by decide +kernel
 rcases a with⟨_|o,n⟩<;>rcases b with⟨_|o',n'⟩
 ·show(ba [.i n,.s ("leave" : Str),.i n] [.i n',.s ("leave" : Str),.i n']).isSome=true;rw[ba];split
  ·rw[ba,if_pos rfl,ba];split
   ·rw[ba];rfl
   ·rfl
  ·rfl
 ·show(ba [.i n,.s ("leave" : Str),.i n] [.i n',.s ("office" : Str),.s o',.i n']).isSome=true;rw[ba];split
  ·rw[ba,if_neg (Ne.symm NQ)];rfl
  ·rfl
 ·show(ba [.i n,.s ("office" : Str),.s o,.i n] [.i n',.s ("leave" : Str),.i n']).isSome=true;rw[ba];split
  ·rw[ba,if_neg NQ];rfl
  ·rfl
 ·show(ba [.i n,.s ("office" : Str),.s o,.i n] [.i n',.s ("office" : Str),.s o',.i n']).isSome=true;rw[ba];split
  ·rw[ba,if_pos rfl,ba];split
   ·rw[ba];split
    ·rw[ba];rfl
    ·rfl
   ·rfl
  ·rfl
theorem Jz (h:yX a=yX b):a=b:=by
 rcases a with⟨_|o,n⟩<;>rcases b with⟨_|o',n'⟩<;>simp[yX]at h
 ·rw[h]
 ·rw[h.1,h.2.1]
theorem Cj (l:List Bs):eD (l.map yX)=true:=by
 unfold eD;simp[List.all_eq_true,Gy]
theorem Gz (e:cD (yX a)=cD (yX b)):a=b:=Jz (np (Cj [a,b]) (by simp) (by simp) e)
def WV (cs:List Cl)(r v:D):Bs:=(some (a7 0 v),Gr cs r v)
def yY (K:KL)(cs:List Cl)(r:D)(ri:Nat):List Bs:=((bP K).filter (sv cs r)).map (WV cs r)++((rO K (cQ r)).filter (AI r ri)).map λx=>(none,(x.2:Int))
def Nq (K:KL)(cs:List Cl)(r:D)(ri:Nat):List Bs:=eC (λb=>cD (yX b)) (yY K cs r ri)
theorem DC (hn:((bP (ak ab aa)).map (a7 0)).Nodup)(cs:List Cl)(r:D)(ri:Nat):(yY (ak ab aa) cs r ri).Nodup:=by
 unfold yY;rw[List.nodup_append];refine⟨?_,?_,?_⟩
 ·exact List.pairwise_map.mpr ((List.Pairwise.sublist List.filter_sublist (List.pairwise_map.mp hn)).imp λh e=>h (vK (Prod.mk.inj e).1))
 ·refine List.pairwise_map.mpr ((List.Pairwise.sublist (List.filter_sublist.trans (List.filter_sublist.trans List.filter_sublist)) (List.pairwise_map.mp (fw ab aa))).imp λh e=>h ?_);have:=(Prod.mk.inj e).2;omega
 ·intro a ha b hb e;obtain⟨v,_,rfl⟩:=vO ha;obtain⟨x,_,rfl⟩:=vO hb;cases (Prod.mk.inj e).1
theorem uj {α:Type}{g:α->D}{h:α->List At}:∀(l:List α),(∀x∈l,Ng (g x)=some (h x))->jh (l.map g)=some (l.map h)
 |[],_=>rfl
 |x::l,k=>by
  rw[uY,jh,k x mX,vJ,uj l λy hy=>k y (mZ _ hy)];rfl
theorem Ck (hl:ab.length<=30)(aa:Int)(cs:List Cl)(r:D)(ri:Nat):(yY (ak ab aa) cs r ri).length<=60:=by
 have h1:((bP (ak ab aa)).filter (sv cs r)).length<=30:=by
  refine vR (vM _ _) ?_;unfold bP;rw[vI];exact vR (vM _ _) (vR (c7 ab aa) hl)
 have h2:((rO (ak ab aa) (cQ r)).filter (AI r ri)).length<=30:=vR (vM _ _) (vR (vM _ _) (vR (vM _ _) (vR (c7 ab aa) hl)));unfold yY;rw[uZ,vI,vI];omega
theorem G0 {f:FE}{ρ:DL.Env}{b:Bool}(l:List Bs)(hl:l.length<=60)(hn:l.Nodup)(e:f ρ=some (.lst (l.map zC),b)):A4 f (pX [] (fA aY (af (f2 b7 (ai 0) (f1 xJ (fI 1))) (fV 0 aj)))) ρ=lT ((eC (λb=>cD (yX b)) l).map zC):=by
 have hm:jf (pX [] (fA aY (af (f2 b7 (ai 0) (f1 xJ (fI 1))) (fV 0 aj))) ρ) (l.map zC)=some (l.map λb=>.tup [.int b.2,zC b]):=ie l λb _=>by
  show(fA aY _ _).map _=_;rw[aL [.int b.2,zC b] (cj (bw (zC b) (.int (-1)) rfl rfl (Jy b)) (cj rfl rfl)) (c8 _ (by simp))];rfl
 have hk:jh (l.map λb=>D.tup [.int b.2,zC b])=some (l.map yX):=uj l λb _=>by rcases b with⟨_|o,n⟩<;>rfl
 have ju:(l.map yX).length<64/\eD (l.map yX)=true/\True/\((l.map yX).map cD).Nodup:=by
  refine⟨by rw[vI];omega,Cj l,trivial,?_⟩;rw[uP];exact List.pairwise_map.mpr (List.Pairwise.imp (λh e=>h (Gz e)) hn)
 unfold A4 wg;rw[e];simp only[vJ];rw[hm];simp only[vJ];rw[hk];simp only[vJ];rw[if_pos ju];unfold jg;have key:((eC (λb=>cD (yX b)) l).map λb=>(yX b,zC b))=eC (λp:List At×D=>cD p.1) (l.map λb=>(yX b,zC b)):=by
  refine jd _ (λx hx y hy e=>?_) ((bg _ _).map _) ?_
  ·obtain⟨a,_,rfl⟩:=vO hx;obtain⟨b,_,rfl⟩:=vO hy;rw[Gz e]
  ·exact List.pairwise_map.mpr (dI _ _)
 rw[List.zip_map',←key,uP];rfl
section
variable {ab:List D}(g:∀r∈ab,bY r) (hl:ab.length<=30) (aa:Int) (hn:((bP (ak ab aa)).map (a7 0)).Nodup)
include g hl hn
theorem yZ (cs:List Cl)(wP:cs.length<=60){ri:Nat}{r:D}(hr:ab[ri]? = some r)(kr:kindOf r∈eM)(hk:aS r<=aa):eZ [.tup ab,.int aa,.lst (cs.map aR),.int ri]=lT ((Nq (ak ab aa) cs r ri).map zC):=by
 have gr:=g r (vL hr);have wd:∀(ρ:DL.Env)(j:Nat),ρ[0]? = some (sF (.tup ab))->ρ[j]? = some (sF (.int ri))->fA aJ (af (f2 b7 (ai 0) (ai j)) aj) ρ=sF (.str (kindOf r)):=λρ j h0 h2=>aL [r] (cj (bw (.tup ab) (.int ri) (by simp[h0]) (by simp[h2]) (by simp[c6 hr])) rfl) (iX gr.c);have Ho:cz [.tup ab,.int aa,.int ri]=sF (.bl true):=by
  obtain⟨a,k,aC,rfl,d⟩:=id gr;rw[k6 hr aa,decide_eq_true (show a<=aa from hk)]
 have UF:eY [.tup ab,.int aa,.int ri]=sF (.bl (decide (kindOf r∈[("paper" : Str),"like","copy"]))):=aw rfl (ay (dJ (p:=true) (aL [.tup ab,.int aa,.int ri] rfl Ho) λ_=>bw (.str (kindOf r)) (.tup ([("paper" : Str),"like","copy"].map .str)) (wd _ 2 rfl rfl) rfl (jn _ _)));have hb:dO [.tup ab,.int aa,.int ri]=sF (.bl true):=by
  refine(aw rfl (ay (qx (aL [.tup ab,.int aa,.int ri] rfl (lM hr gr)) λ_=>aL [.tup ab,.int aa,.int ri] rfl UF))).trans ?_;rw[decide_eq_true hk,Bool.true_and];have:∀k∈eM,(decide (k = "leave") || decide (k∈[("paper" : Str),"like","copy"]))=true:=by decide +kernel
  unfold nI;rw[this _ kr]
 have QX:decide (kindOf r = "copy")=false:=by
  have:∀k∈eM,decide (k = "copy")=false:=by decide +kernel
  exact this _ kr
 have Kb:=Ck hl aa cs r ri;have zy:bx ((yY (ak ab aa) cs r ri).map zC)=true:=bL λd hd=>by obtain⟨b,_,rfl⟩:=vO hd;exact Gx b
 refine aw rfl (aA (cu (p:=true) (cY (aL [.tup ab,.int aa,.int ri] rfl hb))) (aA (bM (a:=kindOf r) (bb:=false) (wd _ 3 rfl rfl) QX) (cf (ds:=(yY (ak ab aa) cs r ri).map zC) ?_ zy (ay (G0 (b:=false) _ Kb (DC hn cs r ri) rfl)))));have ho:=D9 g (by omega) aa hn cs wP hr kr;have hv:=DB g (by omega) aa hr kr;refine iD (x:=.lst (((bP (ak ab aa)).filter (sv cs r)).map (No cs r))) (y:=.lst (((rO (ak ab aa) (cQ r)).filter (AI r ri)).map λx=>.tup [.str "leave",.int x.2])) (b1:=true) (b2:=true) (aL [.tup ab,.int aa,.lst (cs.map aR),.int ri] rfl ho) (aL [.tup ab,.int aa,.int ri] rfl hv) ?_;have R1:=Kb;unfold yY at R1 ⊢;rw[uZ,vI,vI]at R1;refine(if_pos (dm (by rw[vI,vI];omega))).trans ?_;rw[uW,uP,uP];rfl
end
def Nr (K:KL)(c r:D):Bool:=decide (cQ c=cQ r) || (!decide (kindOf r = "copy") && (bP K).any λv=>decide (iY v &&& iY r=iY r) && iM (br K) (a7 0 v) (a7 3 v) (cQ c) (az c))
theorem AJ {α:Type}(l:List α)(p f:α->Bool):((l.filter p).map f).any id=l.any λx=>p x && f x:=by
 induction l with
 |nil=>rfl
 |cons x l ih=>
  rw[List.filter_cons,List.any_cons,←ih];cases h:p x with
  |true=>rw[if_pos rfl,uY,List.any_cons];rfl
  |false=>rw[if_neg (by decide)];rfl
theorem Nt {ab:List D}(g:∀r∈ab,bY r)(hl:ab.length<=60)(aa:Int)(bF:(br (ak ab aa)).length<=60)(hn:((bP (ak ab aa)).map (a7 0)).Nodup){ci ri:Nat}{c r:D}(hc:ab[ci]? = some c)(hr:ab[ri]? = some r)(kc:kindOf c = "call")(kr:kindOf r∈bN):
  lG [.tup ab,.int aa,.lst ((br (ak ab aa)).map aR),.int ci,.int ri]=sF (.bl (Nr (ak ab aa) c r)):=by
 have gC:gs ab:=⟨hl,λr hr=>(g r hr).c⟩;have gc:=g c (vL hc);have gr:=g r (vL hr);have ac:=c6 hc;have ar:=c6 hr;have pc:=Ch gc (jD (.inr kc));have pr:=Ch gr (jD (.inl kr));have R0:∀v∈bP (ak ab aa),bY v/\bc v=true:=λv hv=>by
  obtain⟨x,hx,rfl⟩:=vO hv;obtain⟨h1,h2⟩:=vN hx;exact⟨g _ (vL (bq h1)),h2⟩
 have ZH:(bP (ak ab aa)).length<=60:=by
  unfold bP;rw[vI];exact vR (vM _ _) (vR (c7 ab aa) hl)
 have jv:aO [c]=sF (.int (az c)):=by
  have:=qZ gc.c;unfold sr at this;rwa [if_neg (by unfold bc;rw[kc];decide +kernel)]at this
 have Wx:∀(v7:OB),bp (f2 eB (ai 6) (fA au (fV 5 (af (fS "by") aj)))) [sF (.tup ab),sF (.int aa),sF (.lst ((br (ak ab aa)).map aR)),sF (.int ci),sF (.int ri),some (r,false),sF (.str (cQ c)),v7]=some (decide (cQ c=cQ r)):=λv7=>cY (bw (.str (cQ c)) (.str (cQ r)) rfl (aL [r,.str "by"] rfl pr) (by simp));have Wy:∀(v7:OB),bp (f2 eB (fA aJ (fV 5 aj)) (fS "copy")) [sF (.tup ab),sF (.int aa),sF (.lst ((br (ak ab aa)).map aR)),sF (.int ci),sF (.int ri),some (r,false),sF (.str (cQ c)),v7]=some (decide (kindOf r = "copy")):=λv7=>bM (a:=kindOf r) (bb:=false) (aL [r] rfl (iX gr.c)) rfl;refine aw rfl (ga r (bw (.tup ab) (.int ri) rfl rfl (by simp[ar])) gr.flat (ga (.str (cQ c)) (aL [c,.str "by"] (cj (bw (.tup ab) (.int ci) rfl rfl (by simp[ac])) rfl) pc) rfl ?_));unfold Nr;cases h1:decide (cQ c=cQ r) with
 |true=>exact bB ((Wx none).trans (by rw[h1])) (ay rfl)
 |false=>
  refine aA ((Wx none).trans (by rw[h1])) ?_;cases h2:decide (kindOf r = "copy") with
  |true=>exact bB ((Wy none).trans (by rw[h2])) (ay rfl)
  |false=>
   have kb:kindOf r∈eM:=by
    have nQ:=of_decide_eq_false h2;have:∀k∈bN,k ≠ "copy"->k∈eM:=by decide +kernel
    exact this _ kr nQ
   have pm:=wG gr kb;refine aA ((Wy none).trans (by rw[h2])) ?_;have L5:=gE (fi:=ql (fA gb (fV 0 (fV 1 aj)))) (nT:=1) (cap:=[5]) (tg:=dE 0) (c:=bp (fA hZ (af (fA au (fV 0 (af (fS "matters") aj))) (af (fA au (fV 1 (af (fS "matters") aj))) aj)))) (fe:=ai 0)
    (ρ:=[sF (.tup ab),sF (.int aa),sF (.lst ((br (ak ab aa)).map aR)),sF (.int ci),sF (.int ri),some (r,false),sF (.str (cQ c)),none]) (bP (ak ab aa)) id (λv=>decide (iY v &&& iY r=iY r)) id
    (by show(fA gb _ _).bind _=_;rw[aL [.tup ab,.int aa] rfl (rz gC aa),rJ hn];simp) (by omega) λv hv=>by
     obtain⟨gv,Oe⟩:=R0 v hv;exact⟨[some (v,false),some (r,false)],rfl,cY (aL [.int (iY v),.int (iY r)] (aF (aL [v,.str "matters"] rfl (Cg gv Oe)) (aF (aL [r,.str "matters"] rfl pm) rfl)) (ui _ _)),λ_=>⟨false,rfl⟩⟩
   rw[List.map_id]at L5;refine cf (ds:=(bP (ak ab aa)).filter λv=>decide (iY v &&& iY r=iY r)) L5 (bL λv hv=>(R0 v (vN hv).1).1.flat) (ay ?_);have GZ:=oi (fi:=cm (ai 7)) (nT:=1) (cap:=[2,6,0,3]) (tg:=dE 0) (fe:=fA cH (fV 1 (fV 0 (fV 2 (af (fA aO (af (f2 b7 (ai 3) (ai 4)) aj)) aj)))))
    (ρ:=[sF (.tup ab),sF (.int aa),sF (.lst ((br (ak ab aa)).map aR)),sF (.int ci),sF (.int ri),some (r,false),sF (.str (cQ c)),lT ((bP (ak ab aa)).filter λv=>decide (iY v &&& iY r=iY r))]) ((bP (ak ab aa)).filter λv=>decide (iY v &&& iY r=iY r)) id (λv=>.bl (iM (br (ak ab aa)) (a7 0 v) (a7 3 v) (cQ c) (az c)))
    (by simp) (vR (vM _ _) (by omega)) λv hv=>by
     obtain⟨gv,Oe⟩:=R0 v (vN hv).1;obtain⟨a,o,rl,m,f,rfl,_,_⟩:=rH gv Oe;exact⟨[some (row a ("root" : Str) [.str o,.int m,.int f,.str rl],false),sF (.lst ((br (ak ab aa)).map aR)),sF (.str (cQ c)),sF (.tup ab),sF (.int ci)],rfl,false,aL [.lst ((br (ak ab aa)).map aR),row a ("root" : Str) [.str o,.int m,.int f,.str rl],.str (cQ c),.int (az c)] (cj rfl (cj rfl (cj rfl (aF (aL [c] (cj (bw (.tup ab) (.int ci) rfl rfl (by simp[ac])) rfl) jv) rfl)))) (wB _ bF _ _)⟩
   refine(aL [_] (aF GZ rfl) ?_);show(pH _).map _=_;rw[qy,Option.map_some,AJ];rfl
theorem AK (g:bY r)(h:kindOf r = "call"):∃a d b,∃n:Nat,r=row a ("call" : Str) [.int d,.str b,.int n]:=by
 obtain⟨a,k,aC,rfl,d⟩:=g;have hk:k = "call":=h;clear h;cases d with
 |copy k fJ d b n=>subst hk;exact⟨a,d,b,n,rfl⟩
 |root=>exact cL hk
 |named=>exact cL hk
 |chosen=>exact cL hk
 |heir=>exact cL hk
 |three k fJ=>rcases fJ with rfl|rfl|rfl<;>exact cL hk
 |leave=>exact cL hk
 |paper k fJ=>rcases fJ with rfl|rfl<;>exact cL hk
def nJ (ab:List D)(aa:Int)(ri:Nat)(r:D)(day:Int)(c:D):Bool:=decide (kindOf c = "call") && (decide (gF 2 c=ri) && (decide (az c<=day) && (ig ab aa c && Nr (ak ab aa) c r)))
theorem G1 (e:f ρ=some (.str a,bb)):bp (f2 Af f (fS b)) ρ=some (!decide (a=b)):=cY (iD (x:=.str a) (y:=.str b) (b1:=bb) (b2:=false) e rfl (by simp))
section
variable {ab:List D}(g:∀r∈ab,bY r) (hl:ab.length<=60) (aa:Int) (bF:(br (ak ab aa)).length<=60) (hn:((bP (ak ab aa)).map (a7 0)).Nodup)
include g hl bF hn
theorem za {ci ri:Nat}{c r:D}(hc:ab[ci]? = some c)(hr:ab[ri]? = some r)(kr:kindOf r∈bN)(day:Int):jA [.tup ab,.int aa,.lst ((br (ak ab aa)).map aR),.int ci,.int ri,.int day]=sF (.bl (nJ ab aa ri r day c)):=by
 have gc:=g c (vL hc);have ac:=c6 hc;have tw:bp (f2 Af (fA aJ (fV 6 aj)) (fS "call")) [sF (.tup ab),sF (.int aa),sF (.lst ((br (ak ab aa)).map aR)),sF (.int ci),sF (.int ri),sF (.int day),some (c,false)]=some (!decide (kindOf c = "call")):=G1 (a:=kindOf c) (bb:=false) (aL [c] rfl (iX gc.c));refine aw rfl (ga c (bw (.tup ab) (.int ci) rfl rfl (by simp[ac])) gc.flat ?_);unfold nJ;by_cases hk:kindOf c = "call"
 ·obtain⟨a,d,b,n,ec⟩:=AK gc hk;have e1:gF 2 c=(n:Int):=by rw[ec];rfl
  have e2:az c=d:=by rw[ec];rfl
  have po:au [c,.str "of"]=sF (.int n):=by rw[ec];exact bj (i:=2) cW rfl
  have pd:aO [c]=sF (.int d):=by
   have:=qZ gc.c;unfold sr at this;rwa [if_neg (by unfold bc;rw[hk];decide +kernel),e2]at this
  have t2:bp (f2 Af (fA au (fV 6 (af (fS "of") aj))) (ai 4)) [sF (.tup ab),sF (.int aa),sF (.lst ((br (ak ab aa)).map aR)),sF (.int ci),sF (.int ri),sF (.int day),some (c,false)]=some (!decide ((n:Int)=ri)):=cY (bw (.int n) (.int ri) (aL [c,.str "of"] rfl po) rfl (by simp));have t3:bp (f2 Hf (fA aO (fV 6 aj)) (ai 5)) [sF (.tup ab),sF (.int aa),sF (.lst ((br (ak ab aa)).map aR)),sF (.int ci),sF (.int ri),sF (.int day),some (c,false)]=some (decide (day<d)):=cY (bw (.int d) (.int day) (aL [c] rfl pd) rfl rfl);have tt:=de tw λ_=>de t2 λ_=>t3;rw[e1,e2,decide_eq_true hk,Bool.true_and];rw[decide_eq_true hk]at tt;by_cases h1:(n:Int)=ri
  ·by_cases h2:d<=day
   ·rw[decide_eq_true h1,decide_eq_true h2,Bool.true_and,Bool.true_and];rw[decide_eq_true h1,decide_eq_false (by omega)]at tt;exact aA tt (ay (dJ (aL [.tup ab,.int aa,.int ci] rfl (qY ab (λr hr=>(g r hr).c.rp) (by omega) aa hc)) λ_=>aL [.tup ab,.int aa,.lst ((br (ak ab aa)).map aR),.int ci,.int ri] rfl (Nt g hl aa bF hn hc hr hk kr)))
   ·rw[decide_eq_false h2,Bool.false_and,Bool.and_false];rw[decide_eq_true h1,decide_eq_true (show day<d by omega)]at tt;exact bB tt (ay rfl)
  ·rw[decide_eq_false h1,Bool.false_and];rw[decide_eq_false h1]at tt;exact bB tt (ay rfl)
 ·rw[decide_eq_false hk,Bool.false_and];refine bB (de (p:=true) (q:=false) (tw.trans (by rw[decide_eq_false hk];rfl)) λh=>by cases h) (ay rfl)
def iu (ab:List D)(aa:Int)(ri:Nat)(r:D)(day:Int):List Nat:=if aS r<=aa/\kindOf r∈bN then ((ak ab aa).filter λx=>nJ ab aa ri r day x.1).map (·.2)else []
theorem zb {ri:Nat}{r:D}(hr:ab[ri]? = some r)(day:Int):lH [.tup ab,.int aa,.lst ((br (ak ab aa)).map aR),.int ri,.int day]=lT ((iu ab aa ri r day).map λn:Nat=>.int n):=by
 have gr:=g r (vL hr);have ar:=c6 hr;have Ho:cz [.tup ab,.int aa,.int ri]=sF (.bl (decide (aS r<=aa))):=by
  obtain⟨a,k,aC,e,d⟩:=gr;rw[e]at hr;rw[show aS r=a by rw[e];rfl];exact k6 hr aa
 have wd:∀ρ:DL.Env,ρ[0]? = some (sF (.tup ab))->ρ[2]? = some (sF (.int ri))->fA aJ (af (f2 b7 (ai 0) (ai 2)) aj) ρ=sF (.str (kindOf r)):=λρ h0 h2=>aL [r] (cj (bw (.tup ab) (.int ri) (by simp[h0]) (by simp[h2]) (by simp[ar])) rfl) (iX gr.c);have Ro:fR [.tup ab,.int aa,.int ri]=sF (.bl (decide (aS r<=aa) && decide (kindOf r = "leave"))):=aw rfl (ay (dJ (aL [.tup ab,.int aa,.int ri] rfl Ho) λ_=>bw (.str (kindOf r)) (.str "leave") (wd _ rfl rfl) rfl (by simp)));have UF:eY [.tup ab,.int aa,.int ri]=sF (.bl (decide (aS r<=aa) && decide (kindOf r∈[("paper" : Str),"like","copy"]))):=aw rfl (ay (dJ (aL [.tup ab,.int aa,.int ri] rfl Ho) λ_=>bw (.str (kindOf r)) (.tup ([("paper" : Str),"like","copy"].map .str)) (wd _ rfl rfl) rfl (jn _ _)));have hb:dO [.tup ab,.int aa,.int ri]=sF (.bl (decide (aS r<=aa/\kindOf r∈bN))):=by
  refine(aw rfl (ay (qx (aL [.tup ab,.int aa,.int ri] rfl Ro) λ_=>aL [.tup ab,.int aa,.int ri] rfl UF))).trans ?_;congr 3;simp only[bN,List.mem_cons,List.not_mem_nil,or_false];by_cases h1:aS r<=aa
  ·simp[h1]
  ·simp[h1]
 unfold iu;by_cases hx:aS r<=aa/\kindOf r∈bN
 ·rw[if_pos hx];refine aw rfl (aA (cu (p:=true) (cY (aL [.tup ab,.int aa,.int ri] rfl (by rw[hb,decide_eq_true hx])))) (ay ?_));have R3:=gE (fi:=cm (fA c9 (fV 0 (fV 1 aj)))) (nT:=1) (cap:=[0,1,2,3,4]) (tg:=dE 0) (c:=bp (fA jA (fV 1 (fV 2 (fV 3 (fV 0 (fV 4 (fV 5 aj)))))))) (fe:=ai 0)
   (ρ:=[sF (.tup ab),sF (.int aa),sF (.lst ((br (ak ab aa)).map aR)),sF (.int ri),sF (.int day)]) (ak ab aa) (λx=>.int x.2) (λx=>nJ ab aa ri r day x.1) (λx=>.int x.2)
   (by show(fA c9 _ _).bind _=_;rw[aL [.tup ab,.int aa] rfl (ky ab (λr hr=>(g r hr).c.rp) (by omega) aa)];rfl) (vR (c7 ab aa) (by omega)) λx hx2=>by
    exact⟨_,rfl,cY (aL [.tup ab,.int aa,.lst ((br (ak ab aa)).map aR),.int x.2,.int ri,.int day] rfl (za g hl aa bF hn (bq hx2) hr hx.2 day)),λ_=>⟨false,rfl⟩⟩
  rw[uP];exact R3
 ·rw[if_neg hx];exact aw rfl (bB (cu (p:=false) (cY (aL [.tup ab,.int aa,.int ri] rfl (by rw[hb,decide_eq_false hx])))) (ay (aL [] rfl (g9 _ (by simp)))))
omit bF in
end
noncomputable def kO:List Str:=[("paper" : Str),"like","copy"]
noncomputable def G2 (w:Str):Bs->D
 | (some o,n)=>.tup [.str "office",.str o,.int n]
 | (none,n)=>.tup [.str w,.int n]
def Nu (r:D):Str:=if kindOf r = "copy" then ("copy" : Str)else ("leave" : Str)
theorem DD (b:Bs):G2 ("leave" : Str) b=zC b:=by rcases b with⟨_|o,n⟩<;>rfl
theorem DE {ab:List D}{n:Nat}(h:ab.length<=n)(aa:Int):cz [.tup ab,.int aa,.int n]=sF (.bl false):=by
 refine aw rfl (ay (dJ (p:=false) (q:=false) (b1:=false) ?_ λz=>by cases z));have h1:¬(n:Int)<ab.length:=by omega
 exact(qw (p:=true) (q:=false) (x:=.int 0) (y:=.int n) (z:=.int ab.length) (b1:=false) (b2:=false) (b3:=false) (b4:=false) rfl rfl (by simp) (by simp) λ_=>by simp[h1])
theorem G3 {ab:List D}{i:Nat}{r:D}(hr:ab[i]? = some r)(g:bY r)(aa:Int):cz [.tup ab,.int aa,.int i]=sF (.bl (decide (aS r<=aa))):=by
 obtain⟨a,k,aC,rfl,d⟩:=g;exact k6 hr aa
theorem Cm {ab:List D}{i:Nat}{r:D}(hr:ab[i]? = some r)(g:bY r){ρ:DL.Env}{j:Nat}(h0:ρ[0]? = some (sF (.tup ab)))(hj:ρ[j]? = some (sF (.int i))):fA aJ (af (f2 b7 (ai 0) (ai j)) aj) ρ=sF (.str (kindOf r)) :=
 aL [r] (cj (bw (.tup ab) (.int i) (by simp[h0]) (by simp[hj]) (by simp[c6 hr])) rfl) (iX g.c)
theorem zc {ab:List D}{i:Nat}{r:D}(hr:ab[i]? = some r)(g:bY r)(aa:Int):eY [.tup ab,.int aa,.int i]=sF (.bl (decide (aS r<=aa) && decide (kindOf r∈kO))) :=
 aw rfl (ay (dJ (aL [.tup ab,.int aa,.int i] rfl (G3 hr g aa)) λ_=>bw (.str (kindOf r)) (.tup (kO.map .str)) (Cm hr g rfl rfl) rfl (jn _ _)))
theorem zd {ab:List D}{i:Nat}{r:D}(hr:ab[i]? = some r)(g:bY r)(aa:Int):dO [.tup ab,.int aa,.int i]=sF (.bl (decide (aS r<=aa) && decide (kindOf r∈bN))):=by
 refine(aw rfl (ay (qx (aL [.tup ab,.int aa,.int i] rfl (lM hr g)) λ_=>aL [.tup ab,.int aa,.int i] rfl (zc hr g aa)))).trans ?_;congr 3;unfold nI;simp only[bN,kO,List.mem_cons,List.not_mem_nil,or_false];by_cases h1:aS r<=aa
 ·simp[h1]
 ·simp[h1]
def ze (ab:List D)(aa:Int)(r:D)(ri n:Nat):Bool:=match ab[n]? with
 |none=>false
 |some q=>(decide (aS q<=aa) && decide (kindOf q∈kO)) && fK (q,n) (r,ri)
theorem AL (g:bY r)(h:kindOf r = "copy"):∃a d b,∃n:Nat,r=row a ("copy" : Str) [.int d,.str b,.int n]:=by
 obtain⟨a,k,aC,rfl,d⟩:=g;have hk:k = "copy":=h;clear h;cases d with
 |copy k fJ d b n=>subst hk;exact⟨a,d,b,n,rfl⟩
 |root=>exact cL hk
 |named=>exact cL hk
 |chosen=>exact cL hk
 |heir=>exact cL hk
 |three k fJ=>rcases fJ with rfl|rfl|rfl<;>exact cL hk
 |leave=>exact cL hk
 |paper k fJ=>rcases fJ with rfl|rfl<;>exact cL hk
theorem rP (h:kindOf r∈kO):bc r=false:=by
 have:∀k∈kO,decide (k = "root")=false:=by decide +kernel
 exact this _ h
theorem DF {ab:List D}(g:∀r∈ab,bY r)(aa:Int){ri:Nat}{r:D}(hr:ab[ri]? = some r)(kc:kindOf r = "copy"):∃n:Nat,gF 2 r=n/\j9 [.tup ab,.int aa,.int ri]=lT ((if ze ab aa r ri n=true then [((none,(n:Int)):Bs)]else []).map (G2 ("copy" : Str))):=by
 have gr:=g r (vL hr);obtain⟨a,d,b,n,er⟩:=AL gr kc;have nr:bc r=false:=rP (by rw[kc];decide +kernel);have po:au [r,.str "of"]=sF (.int n):=by rw[er];exact bj (i:=2) cW rfl
 refine⟨n,by rw[er];rfl,?_⟩;let E:DL.Env:=[sF (.tup ab),sF (.int aa),sF (.int ri),sF (.int n)];refine aw rfl (ga (.int n) (aL [r,.str "of"] (cj (bw (.tup ab) (.int ri) rfl rfl (by simp[c6 hr])) rfl) po) rfl ?_);have tt:dj (bp (fA eY (fV 0 (fV 1 (fV 3 aj))))) (bp (fA fT (fV 0 (fV 3 (fV 2 aj))))) E=some (ze ab aa r ri n):=by
  unfold ze;cases hq:ab[n]? with
  |none=>
   have hn:ab.length<=n:=List.getElem?_eq_none_iff.mp hq;exact dD (p:=false) (q:=false) (cY (aL [.tup ab,.int aa,.int n] rfl (aw rfl (ay (dJ (p:=false) (q:=false) (aL [.tup ab,.int aa,.int n] rfl (DE hn aa)) λz=>by cases z))))) λz=>by cases z
  |some q=>
   have gq:=g q (vL hq);exact dD (cY (aL [.tup ab,.int aa,.int n] rfl (zc hq gq aa))) λh=>by
    rw[vC]at h;exact cY (aL [.tup ab,.int n,.int ri] rfl (yW hq hr gq gr (rP (of_decide_eq_true h.2)) nr))
 cases hv:ze ab aa r ri n with
 |true=>
  rw[hv]at tt;rw[if_pos rfl];exact bB tt (ay (aL [.tup [.str "copy",.int n]] (cj (aL [.str "copy",.int n] rfl (c8 _ (by simp))) rfl) (g9 _ (by simp))))
 |false=>
  rw[hv]at tt;rw[if_neg (by decide)];exact aA tt (ay (aL [] rfl (g9 _ (by simp))))
def ul (ab:List D)(aa:Int)(cs:List Cl)(x:D×Nat):List Bs:=if kindOf x.1 = "copy" then (if ze ab aa x.1 x.2 (gF 2 x.1).toNat=true then [(none,gF 2 x.1)]else [])else Nq (ak ab aa) cs x.1 x.2
section
variable {ab:List D}(g:∀r∈ab,bY r) (hl:ab.length<=30) (aa:Int) (hn:((bP (ak ab aa)).map (a7 0)).Nodup)
include g hl hn
theorem J0 (cs:List Cl)(wP:cs.length<=60){ri:Nat}{r:D}(hr:ab[ri]? = some r)(kr:kindOf r∈bN)(hk:aS r<=aa):eZ [.tup ab,.int aa,.lst (cs.map aR),.int ri]=lT ((ul ab aa cs (r,ri)).map (G2 (Nu r))):=by
 have gr:=g r (vL hr);unfold ul Nu;by_cases kc:kindOf r = "copy"
 ·rw[if_pos kc,if_pos kc];obtain⟨n,e1,e2⟩:=DF g aa hr kc;rw[e1,Int.toNat_natCast];refine aw rfl (aA (cu (p:=true) (cY (aL [.tup ab,.int aa,.int ri] rfl ((zd hr gr aa).trans (by rw[decide_eq_true hk,decide_eq_true kr];rfl))))) (bB (bM (a:=kindOf r) (bb:=false) (Cm hr gr rfl rfl) (decide_eq_true kc)) (ay (aL [.tup ab,.int aa,.int ri] rfl e2))))
 ·rw[if_neg kc,if_neg kc];have kb:kindOf r∈eM:=by
   have:∀k∈bN,k ≠ "copy"->k∈eM:=by decide +kernel
   exact this _ kr kc
  rw[show G2 ("leave" : Str)=zC from funext DD];exact yZ g hl aa hn cs wP hr kb hk
end
theorem Nv (e:f (lW ρ)=some (d,b))(k:h (ρ.set i (some (d,false)))=r):a8 (xm i f) h ρ=r:=dC (ρ':=ρ.set i (some (d,false))) (by simp only[xm,e,Option.map_some]) k
theorem Cn (e:ρ[i]? = some (some (.dk ks vs,b))):jH i ρ=some (.rt (.dk ks vs) false):=by simp[jH,e]
noncomputable def kN (x:D×Nat):cw:=.inl (x.2:Int)
def zf (ab:List D)(aa day:Int)(x:D×Nat):Bool:=(ig ab aa x.1 && decide (az x.1<=day)) && (iu ab aa x.2 x.1 day).isEmpty
theorem J5 {α:Type}(l:List α)(f:α->D):decide ((((l.map f).length:Nat):Int)=0)=l.isEmpty:=by
 cases l with
 |nil=>rfl
 |cons a l=>rw[uY,vE];exact decide_eq_false (by omega)
noncomputable def iE (ab:List D)(aa day:Int)(l:KL):KL:=l.filter λx=>decide (kindOf x.1∈bN) && zf ab aa day x
section
variable {ab:List D}(g:∀r∈ab,bY r) (hl:ab.length<=30) (aa:Int) (hn:((bP (ak ab aa)).map (a7 0)).Nodup)
include g hl hn
theorem Nw (bF:(br (ak ab aa)).length<=60){ri:Nat}{r:D}(hr:ab[ri]? = some r)(kr:kindOf r∈bN)(day:Int):mD [.tup ab,.int aa,.lst ((br (ak ab aa)).map aR),.int ri,.int day]=sF (.bl (zf ab aa day (r,ri))):=by
 have gr:=g r (vL hr);have nr:bc r=false:=by
  have:∀k∈bN,decide (k = "root")=false:=by decide +kernel
  exact this _ kr
 let E:DL.Env:=[sF (.tup ab),sF (.int aa),sF (.lst ((br (ak ab aa)).map aR)),sF (.int ri),sF (.int day)];have t1:bp (fA fP (fV 0 (fV 1 (fV 3 aj)))) E=some (ig ab aa r):=cY (aL [.tup ab,.int aa,.int ri] rfl (qY ab (λr hr=>(g r hr).c.rp) (by omega) aa hr));have t2:bp (f2 Hf (fA aO (af (f2 b7 (ai 0) (ai 3)) aj)) (ai 4)) E=some (decide (day<az r)):=cY (bw (.int (az r)) (.int day) (aL [r] (cj (bw (.tup ab) (.int ri) rfl rfl (by simp[c6 hr])) rfl) (rM gr nr)) rfl rfl);have tt:=de (cu t1) λ_=>t2;have e:(!ig ab aa r || decide (day<az r)) = !(ig ab aa r && decide (az r<=day)):=by
  rw[Bool.not_and];congr 1;rw[←decide_not];congr 1;rw[Int.not_le]
 rw[e]at tt;unfold zf;cases hA:(ig ab aa r && decide (az r<=day)) with
 |false=>
  rw[hA]at tt;exact aw rfl (bB tt (ay rfl))
 |true=>
  rw[hA]at tt;refine aw rfl (aA tt (ay ?_));rw[Bool.true_and,←J5 (iu ab aa ri r day) λn:Nat=>.int n];exact bw (.int (((iu ab aa ri r day).map λn:Nat=>D.int n).length:Nat)) (.int 0) (aL [.lst ((iu ab aa ri r day).map λn:Nat=>.int n)] (aF (aL [.tup ab,.int aa,.lst ((br (ak ab aa)).map aR),.int ri,.int day] rfl (zb g (by omega) aa bF hn hr day)) rfl) rfl) rfl (by simp)
theorem G4 (ho:(cJ (ak ab aa)).length<=60)(day:Int):wu [.tup ab,.int aa,.int day]=sF (.dk ((iE ab aa day (cJ (ak ab aa))).map kN) ((iE ab aa day (cJ (ak ab aa))).map λx=>.lst ((ul ab aa (br (ak ab aa)) x).map (G2 (Nu x.1))))):=by
 have gC:gs ab:=⟨by omega,λr hr=>(g r hr).c⟩;obtain⟨ec,zx⟩:=D6 (ab:=ab) gC aa ho;have eL:dL [.tup ab,.int aa]=lT ((cJ (ak ab aa)).map λx=>.int x.2):=o6 gC aa;generalize wP:br (ak ab aa)=cs at ec zx ⊢;have nR:∀x∈cJ (ak ab aa),x∈ak ab aa:=λx hx=>(vN ((bg _ _).mem_iff.mp hx)).1;have Ke:((cJ (ak ab aa)).map (·.2)).Nodup:=nG (fw ab aa);generalize cJ (ak ab aa)=O at ho eL nR Ke ⊢;let vD:D×Nat->D:=λx=>.lst ((ul ab aa cs x).map (G2 (Nu x.1)));let E:KL->OB->DL.Env:=λL v5=>[sF (.tup ab),sF (.int aa),sF (.int day),sF (.lst (cs.map aR)),some (.dk (L.map kN) (L.map vD),true),v5];obtain⟨ρ',e,v5,rfl⟩:=gk (tg:=dE 5) (g:=yB) (λj ρ=>∃v5,ρ=E (iE ab aa day (O.take j)) v5) (O.map λx=>.int x.2) (E [] none) ⟨none,rfl⟩ (by
  rintro j d ρ hd ⟨v5,rfl⟩;rw[vA]at hd;obtain⟨x,hx,rfl⟩:=oY hd;have Sk:=nR x (vL hx);have hr:=bq Sk;have Ho:aS x.1<=aa:=of_decide_eq_true (vN Sk).2;have gx:=g x.1 (vL hr);have et:O.take (j+1)=O.take j++[x]:=by rw[List.take_add_one,hx];rfl
  have ef:iE ab aa day (O.take (j+1))=iE ab aa day (O.take j)++if(decide (kindOf x.1∈bN) && zf ab aa day x)=true then [x]else []:=by
   unfold iE;rw[et,List.filter_append,List.filter_cons];split<;>rfl
  have Wz:x.2∉(iE ab aa day (O.take j)).map (·.2):=by
   have h2:((O.take (j+1)).map (·.2)).Nodup:=List.Nodup.sublist (List.Sublist.map _ (List.take_sublist _ _)) Ke;rw[et,uW,List.nodup_append]at h2;intro hm;obtain⟨y,hy,ey⟩:=vO hm;exact h2.2.2 _ (uS ⟨y,(vN hy).1,rfl⟩) _ (by simp) ey
  have UG:(iE ab aa day (O.take j)).length<=60:=vR (vM _ _) (vR (List.length_take_le' _ _) ho);generalize iE ab aa day (O.take j)=L at ef Wz UG;let F:DL.Env:=E L (sF (.int x.2));have t1:bp (fA dO (fV 0 (fV 1 (fV 5 aj)))) F=some (decide (kindOf x.1∈bN)):=cY (aL [.tup ab,.int aa,.int x.2] rfl ((zd hr gx aa).trans (by rw[decide_eq_true Ho,Bool.true_and])));have tt:=dD t1 λh=>cY (f:=fA mD (fV 0 (fV 1 (fV 3 (fV 5 (fV 2 aj)))))) (aL [.tup ab,.int aa,.lst (cs.map aR),.int x.2,.int day] rfl (by rw[←wP];exact Nw g hl aa hn (by rw[wP];exact zx) hr (of_decide_eq_true h) day));refine⟨F,E (L++if(decide (kindOf x.1∈bN) && zf ab aa day x)=true then [x]else []) (sF (.int x.2)),rfl,.inl (Qq tt (λh=>?_) λh=>?_),sF (.int x.2),by rw[ef]⟩
  ·rw[if_pos h];have kb:kindOf x.1∈bN:=by rw[vC]at h;exact of_decide_eq_true h.1
   have Of:qo 4 (ai 5) (fA eZ (fV 0 (fV 1 (fV 3 (fV 5 aj))))) F=some (.nx (F.set 4 (some (.dk (dA (L.map kN) (kN x)) (dB (L.map kN) (L.map vD) (kN x) (vD x)),true)))):=by
    have ev:fA eZ (fV 0 (fV 1 (fV 3 (fV 5 aj)))) (lW F)=some (vD x,true):=aL [.tup ab,.int aa,.lst (cs.map aR),.int x.2] rfl (J0 g hl aa hn cs zx hr kb Ho);show((fA eZ _ (lW F)).bind _)=_;rw[ev];simp only[vJ];exact if_pos (c:=(L.map kN).length<sizeLine) (bK (by rw[vI];omega))
   rw[Of];have hk:kN x∉L.map kN:=λhm=>by
    obtain⟨y,hy,ey⟩:=vO hm;exact Wz (uS ⟨y,hy,by have:=Sum.inl.inj (show(Sum.inl (y.2:Int):cw)=Sum.inl (x.2:Int)from ey);omega⟩)
   unfold dA dB;rw[if_neg hk,if_neg hk];simp[F,E]
  ·rw[h,if_neg (by decide),uQ];rfl)
 rw[vI,List.take_length]at e;exact aw rfl (Nv (aL [.tup ab,.int aa] rfl ec) (dC (ρ':=E [] none) rfl (dC (kI (ds:=O.map λx=>.int x.2) (by show(fA dL _ _).bind _=_;rw[aL [.tup ab,.int aa] rfl eL];rfl) e) (Cn (b:=true) rfl))))
end
noncomputable def nK (n:Nat):cw:=.inl (n:Int)
noncomputable def Hk:Nat->D:=λ_=>.bl true
noncomputable def jL (S:List Nat)(b:Bs):Bool:=b.1.isSome || S.any λn=>decide ((n:Int)=b.2)
noncomputable def dW (S:List Nat)(p:Nat×List Bs):List Nat:=if p.2.any (jL S)=true then S++[p.1]else S
noncomputable def fD (l:List (Nat×List Bs)):List Nat:=l.foldl dW []
theorem zg (n:Int):∀S:List Nat,(cB (S.map nK) (S.map Hk) (.inl n)).isSome=S.any λm=>decide ((m:Int)=n)
 |[]=>rfl
 |m::S=>by
  rw[uY,uY,cB,List.any_cons];by_cases h:(m:Int)=n
  ·rw[if_pos (show nK m=.inl n by unfold nK;rw[h]),decide_eq_true h];rfl
  ·rw[if_neg (show ¬nK m=.inl n from λz=>h (Sum.inl.inj z)),decide_eq_false h,zg n S];rfl
theorem G5 (hw:decide (w=("office" : Str))=false)(S:List Nat)(b:Bs):mE [G2 w b,.dk (S.map nK) (S.map Hk)]=sF (.bl (jL S b)):=by
 unfold jL;rcases b with⟨_|o,n⟩
 ·refine aw rfl (ay (qx (p:=false) (b1:=false) (bw (.str w) (.str "office") rfl rfl (by simp[of_decide_eq_false hw])) λ_=>bw (.int n) (.dk (S.map nK) (S.map Hk)) rfl rfl ?_));show some (D.bl (cB (S.map nK) (S.map Hk) (.inl n)).isSome,false)=_;rw[zg]
 ·exact aw rfl (ay (qx (p:=true) (q:=S.any λm=>decide ((m:Int)=n)) (b1:=false) (bw (.str "office") (.str "office") rfl rfl (by simp)) λh=>by cases h))
theorem any_map {α:Type}(l:List α)(f:α->Bool):EW [.lst (l.map λx=>.bl (f x))]=sF (.bl (l.any f)):=by
 show(pH _).map _=_;rw[qy,Option.map_some,List.any_map];rfl
theorem G6 (h:m∈dW S p):m∈S∨m=p.1:=by
 unfold dW at h;split at h
 ·simpa using h
 ·exact .inl h
theorem kP:∀(l:List (Nat×List Bs))(S:List Nat)(m:Nat),m∈l.foldl dW S->m∈S∨m∈l.map (·.1)
 |[],_,_,h=>.inl h
 |p::l,S,m,h=>by
  rcases kP l _ m h with h|h
  ·rcases G6 h with h|rfl
   ·exact .inl h
   ·exact .inr (by simp)
  ·exact .inr (mZ _ h)
abbrev Rs:=Nat×Str×List Bs
noncomputable def Lk (p:Rs):D:=.lst (p.2.2.map (G2 p.2.1))
noncomputable def Co (p:Rs):Nat×List Bs:=(p.1,p.2.2)
theorem G7 (l:List Rs)(hl:l.length<=60)(hw:∀p∈l,decide (p.2.1 = "office")=false)(hb:∀p∈l,p.2.2.length<=100)(hn:(l.map (·.1)).Nodup):ww [.dk (l.map λp=>nK p.1) (l.map Lk)]=sF (.dk ((fD (l.map Co)).map nK) ((fD (l.map Co)).map Hk)):=by
 let E:List Nat->OB->OB->DL.Env:=λS v2 v3=>[sF (.dk (l.map λp=>nK p.1) (l.map Lk)),some (.dk (S.map nK) (S.map Hk),true),v2,v3];have DX:lD (l.map λp=>nK p.1) (l.map Lk)=l.map λp=>.tup [.int (p.1:Int),Lk p]:=by
  unfold lD;rw[List.zip_map',uP];rfl
 obtain⟨ρ',e,v2,v3,rfl⟩:=gk (tg:=Hh [2,3]) (g:=yC) (λj ρ=>∃v2 v3,ρ=E (fD ((l.take j).map Co)) v2 v3) (l.map λp=>.tup [.int (p.1:Int),Lk p]) (E [] none none) ⟨none,none,rfl⟩ (by
  rintro j d ρ hd ⟨v2,v3,rfl⟩;rw[vA]at hd;obtain⟨p,hp,rfl⟩:=oY hd;have Sb:=vL hp;have et:l.take (j+1)=l.take j++[p]:=by rw[List.take_add_one,hp];rfl
  have es:fD ((l.take (j+1)).map Co)=dW (fD ((l.take j).map Co)) (Co p):=by
   rw[et,uW];unfold fD;rw[List.foldl_append];rfl
  have Sj:p.1∉fD ((l.take j).map Co):=λhm=>by
   have h2:((l.take (j+1)).map (·.1)).Nodup:=List.Nodup.sublist (List.Sublist.map _ (List.take_sublist _ _)) hn;rw[et,uW,List.nodup_append]at h2;rcases kP _ _ _ hm with h|h
   ·cases h
   ·rw[uP]at h;exact h2.2.2 _ h _ (by simp) rfl
  have Se:(fD ((l.take j).map Co)).length<=60:=by
   have:∀(q:List (Nat×List Bs))(S:List Nat),(q.foldl dW S).length<=S.length+q.length:=λq=>by
    induction q with
    |nil=>intro S;exact vT _
    |cons a q ih=>
     intro S;refine vR (ih _) ?_;unfold dW;split
     ·rw[uZ,vE,List.length_nil,vE];omega
     ·rw[vE];omega
   have h3:=this ((l.take j).map Co) [];rw[vI,List.length_take,List.length_nil]at h3;exact vR h3 (by omega)
  generalize fD ((l.take j).map Co)=S at es Sj Se;let F:DL.Env:=E S (sF (.int (p.1:Int))) (some (Lk p,false));have hc:=oi (fi:=cm (ai 3)) (nT:=1) (cap:=[1]) (tg:=dE 0) (fe:=fA mE (fV 0 (fV 1 aj))) (ρ:=F) p.2.2 (G2 p.2.1) (λb=>.bl (jL S b)) rfl (by have:=hb p Sb;omega) λb _=>⟨[some (G2 p.2.1 b,false),sF (.dk (S.map nK) (S.map Hk))],rfl,false,aL [G2 p.2.1 b,.dk (S.map nK) (S.map Hk)] rfl (G5 (hw p Sb) S b)⟩;have t1:bp (fA EW (af (bO (cm (ai 3)) 1 [1] (dE 0) gQ (fA mE (fV 0 (fV 1 aj)))) aj)) F=some (p.2.2.any (jL S)):=cY (aL [.lst (p.2.2.map λb=>.bl (jL S b))] (aF hc rfl) (any_map _ _));refine⟨F,E (dW S (Co p)) (sF (.int (p.1:Int))) (some (Lk p,false)),rfl,.inl (Qq t1 (λh=>?_) λh=>?_),_,_,by rw[es]⟩
  ·have hk:nK p.1∉S.map nK:=λhm=>by
    obtain⟨y,hy,ey⟩:=vO hm;have:=Sum.inl.inj (show(Sum.inl (y:Int):cw)=Sum.inl (p.1:Int)from ey);exact Sj (by rw[show p.1=y by omega];exact hy)
   have Of:yv 1 (ai 2) (fC (.bl true)) F=some (.nx (F.set 1 (some (.dk (dA (S.map nK) (nK p.1)) (dB (S.map nK) (S.map Hk) (nK p.1) (.bl true)),true)))):=if_pos (c:=bu (.bl true)=true/\(S.map nK).length<sizeLine) ⟨rfl,bK (by rw[vI];omega)⟩;rw[Of];unfold dA dB dW;rw[if_neg hk,if_neg hk,if_pos (show(Co p).2.any (jL S)=true from h)];simp[F,E,Co,Hk]
  ·unfold dW;rw[if_neg (show ¬(Co p).2.any (jL S)=true by show ¬p.2.2.any (jL S)=true;rw[h];decide)];rfl)
 rw[vI,List.take_length]at e;exact aw rfl (dC (ρ':=E [] none none) rfl (dC (kI (ds:=l.map λp=>.tup [.int (p.1:Int),Lk p]) (by show some (lD _ _)=_;rw[DX]) e) (Cn (b:=true) rfl)))
theorem um:∀S:List Nat,tQ (S.map nK)=some (S.map λ(n:Nat)=>(n:Int))
 |[]=>rfl
 |n::S=>by
  show(tQ (S.map nK)).map _=_;rw[um S];rfl
theorem zh {α β:Type}(g:α->β)(f:β->List Int)(x:α):∀l:List α,nj f (g x) (l.map g)=(nj (λa=>f (g a)) x l).map g
 |[]=>rfl
 |y::r=>by
  rw[uY,nj,nj];split
  ·rw[uY,zh g f x r]
  ·rfl
theorem uo {α β:Type}(g:α->β)(f:β->List Int):∀l:List α,eC f (l.map g)=(eC (λa=>f (g a)) l).map g
 |[]=>rfl
 |x::l=>by
  show nj f (g x) (eC f (l.map g))=(nj (λa=>f (g a)) x (eC (λa=>f (g a)) l)).map g;rw[uo g f l,zh]
theorem G8 (n:Int)(S:List Nat):Hg (.int n) (S.map λ(m:Nat)=>D.int (m:Int))=S.any λm=>decide ((m:Int)=n):=by
 unfold Hg;induction S with
 |nil=>rfl
 |cons m S ih=>
  rw[uY,List.any_cons,ih,List.any_cons];by_cases h:(m:Int)=n
  ·simp[h]
  ·simp[h,Ne.symm h]
def uq (ab:List D)(aa:Int)(x:D×Nat):List Bs:=ul ab aa (br (ak ab aa)) x
def cE (ab:List D)(aa day:Int):List Nat:=fD ((iE ab aa day (cJ (ak ab aa))).map λx=>(x.2,uq ab aa x))
def cU (S:List Nat):List D:=(gD (S.map λ(n:Nat)=>(n:Int))).map .int
theorem Nx (r:D):decide (Nu r = "office")=false:=by
 unfold Nu;split
 ·decide +kernel
 ·decide +kernel
theorem wJ (h:kindOf r∈bN):bc r=false:=by
 have:∀k∈bN,decide (k = "root")=false:=by decide +kernel
 exact this _ h
section
variable {ab:List D}(g:∀r∈ab,bY r) (hl:ab.length<=30) (aa:Int) (hn:((bP (ak ab aa)).map (a7 0)).Nodup) (ho:(cJ (ak ab aa)).length<=60)
include hl
theorem G9 (x:D×Nat):(uq ab aa x).length<=60:=by
 unfold uq ul;split
 ·split
  ·exact(by decide:1<=60)
  ·exact uN _
 ·unfold Nq;rw[(bg _ _).length_eq];exact Ck hl aa _ _ _
theorem ur (day:Int):(cE ab aa day).length<=60:=by
 have:∀(q:List (Nat×List Bs))(S:List Nat),(q.foldl dW S).length<=S.length+q.length:=λq=>by
  induction q with
  |nil=>intro S;exact vT _
  |cons a q ih=>
   intro S;refine vR (ih _) ?_;unfold dW;split
   ·rw[uZ,vE,List.length_nil,vE];omega
   ·rw[vE];omega
 have h3:=this ((iE ab aa day (cJ (ak ab aa))).map λx=>(x.2,uq ab aa x)) [];have h4:(cJ (ak ab aa)).length<=30:=by
  unfold cJ;rw[(bg _ _).length_eq];exact vR (vM _ _) (vR (c7 ab aa) hl)
 have h5:(iE ab aa day (cJ (ak ab aa))).length<=30:=vR (vM _ _) h4;rw[vI,List.length_nil]at h3;exact vR h3 (by omega)
include g hn ho
theorem zi (day:Int):ib [.tup ab,.int aa,.int day]=lT (cU (cE ab aa day)):=by
 have el:=G4 g hl aa hn ho day;have h4:(iE ab aa day (cJ (ak ab aa))).length<=60:=vR (vM _ _) ho;have es:=G7 ((iE ab aa day (cJ (ak ab aa))).map λx=>(x.2,Nu x.1,uq ab aa x)) (by rw[vI];exact h4)
  (λp hp=>by obtain⟨x,_,rfl⟩:=vO hp;exact Nx _) (λp hp=>by obtain⟨x,_,rfl⟩:=vO hp;exact vR (G9 hl aa x) (by decide))
  (by rw[uP];exact List.Nodup.sublist (List.Sublist.map _ List.filter_sublist) (nG (fw ab aa)))
 rw[uP,uP,uP]at es;refine aw rfl (ay (aL [_] (aF (aL [_] (aF (aL [.tup ab,.int aa,.int day] rfl el) rfl) es) rfl) ?_));show(tQ ((cE ab aa day).map nK)).bind _=_;rw[um,vJ,if_pos (by rw[vI];have:=ur hl aa day;omega)];rfl
end
theorem nL (S:List Nat):bx (cU S)=true:=bL λd hd=>by obtain⟨n,_,rfl⟩:=vO hd;rfl
theorem lN (S:List Nat):aq 40 (.lst (cU S))=true:=by
 simp only[aq,List.all_eq_true];intro d hd;obtain⟨n,_,rfl⟩:=vO hd;simp
theorem GA (ab:List D)(aa:Int):bP (ak ab aa)=ab.filter λv=>bc v && decide (aS v<=aa):=by
 unfold bP ak;rw[List.filter_filter];have:∀(l:List (D×Nat))(q:D->Bool),(l.filter λx=>q x.1).map (·.1)=(l.map (·.1)).filter q:=λl q=>by rw[List.filter_map];rfl
 refine(this ab.zipIdx λv=>bc v && decide (aS v<=aa)).trans ?_;rw[List.zipIdx_map_fst]
theorem GB (ab:List D)(aa:Int):((bP (ak ab aa)).map (a7 0)).Sublist (lr ab):=by
 rw[GA];unfold lr;refine List.Sublist.map _ ?_;have:(ab.filter λv=>bc v && decide (aS v<=aa))=(ab.filter bc).filter λv=>decide (aS v<=aa):=by rw[List.filter_filter];congr 1;funext v;rw[Bool.and_comm]
 rw[this];exact List.filter_sublist
def js (S:List Nat):List Nat:=eC (λn:Nat=>[(n:Int)]) S
theorem p4 (S:List Nat):cU S=(js S).map λ(n:Nat)=>.int (n:Int):=by
 unfold cU gD js;rw[uo,uP];rfl
theorem nM {m:Nat}{S:List Nat}:m∈js S↔m∈S:=(bg _ _).mem_iff
theorem mN (S:List Nat)(q:Nat->Bool):js (S.filter q)=(js S).filter q :=
 (jd (λn:Nat=>[(n:Int)]) (λx _ y _ e=>by have:=(List.cons.inj e).1;omega) ((bg _ _).filter q) (List.Pairwise.filter _ (dI _ _))).symm
theorem J6 (n:Nat)(S:List Nat):(S.any λm=>decide ((m:Int)=(n:Int)))=decide (n∈S):=by
 rw[Bool.eq_iff_iff,List.any_eq_true,decide_eq_true_iff];constructor
 ·rintro⟨m,h,e⟩;have:=of_decide_eq_true e;rw[show n=m by omega];exact h
 ·exact λh=>⟨n,h,decide_eq_true rfl⟩
theorem J7 (n:Nat)(S:List Nat):z9 (.int (n:Int)) (.lst (cU S))=sF (.bl (decide (n∈S))):=by
 have zy:((js S).map λ(n:Nat)=>D.int (n:Int)).all gf=true:=by
  rw[List.all_eq_true];intro d hd;obtain⟨m,_,rfl⟩:=vO hd;rfl
 rw[p4];simp only[z9,gU,vJ];rw[if_pos ⟨rfl,zy⟩,G8,J6];exact congrArg (λb=>sF (.bl b)) (decide_eq_decide.mpr nM)
theorem zj (h:m∈S):m∈dW S p:=by
 unfold dW;split
 ·exact List.mem_append_left _ h
 ·exact h
theorem DG {S T:List Nat}(h:∀m∈S,m∈T)(b:Bs)(k:jL S b=true):jL T b=true:=by
 unfold jL at k ⊢;rw[Bool.or_eq_true,List.any_eq_true]at k ⊢;exact k.imp id λ⟨n,hn,e⟩=>⟨n,h n hn,e⟩
theorem DH {S T:List Nat}(h:∀m∈S,m∈T)(p:Nat×List Bs):∀m∈dW S p,m∈dW T p:=by
 intro m hm;unfold dW at hm;split at hm
 ·rename_i hb;obtain⟨b,h1,h2⟩:=List.any_eq_true.mp hb;unfold dW;rw[if_pos (List.any_eq_true.mpr ⟨b,h1,DG h b h2⟩)];exact(List.mem_append.mp hm).elim (λz=>List.mem_append_left _ (h m z)) λz=>mY _ z
 ·exact zj (h m hm)
theorem DI {l' l:List (Nat×List Bs)}(s:l'.Sublist l):∀ {S T:List Nat},(∀m∈S,m∈T)->∀m∈l'.foldl dW S,m∈l.foldl dW T:=by
 induction s with
 |slnil=>exact λh=>h
 |cons a _ ih=>exact λh=>ih λm hm=>zj (h m hm)
 |cons_cons a _ ih=>exact λh=>ih (DH h a)
theorem zk (q:Nat->Bool):∀(l:List (Nat×List Bs))(S:List Nat),(∀p∈l,q p.1=false)->(l.foldl dW S).filter q=S.filter q
 |[],_,_=>rfl
 |p::l,S,h=>by
  rw[List.foldl_cons,zk q l _ λp' hp=>h p' (mZ _ hp)];unfold dW;split
  ·rw[List.filter_append,List.filter_cons,h p mX];simp
  ·rfl
theorem zl {α:Type}(f:α->Int)(c:Int):∀l:List α,l.Pairwise (λa b=>f a<=f b)->l.filter (λx=>decide (f x<=c))++l.filter (λx=>!decide (f x<=c))=l
 |[],_=>rfl
 |x::l,h=>by
  obtain⟨h1,h2⟩:=List.pairwise_cons.mp h;have ih:=zl f c l h2;by_cases hc:f x<=c
  ·rw[List.filter_cons,List.filter_cons,decide_eq_true hc];simpa using ih
  ·have e:l.filter (λx=>decide (f x<=c))=[]:=List.filter_eq_nil_iff.mpr λy hy=>by have:=h1 y hy;simp;omega
   rw[e]at ih;rw[List.filter_cons,List.filter_cons,decide_eq_false hc,e];simpa using ih
theorem GC (K:KL):(cJ K).Pairwise λa b=>az a.1<=az b.1:=(dI _ _).imp λ{a b} h=>by
 have:=pe _ _ _ (wy b a);rw[decide_eq_false (show ¬cD (kA b)<cD (kA a)from h)]at this;have:=of_decide_eq_false this;omega
def dN (ab:List D)(n:Nat):Int:=(ab[n]?.map az).getD 0
section
variable (ab:List D) (aa d1 d2:Int)
abbrev oB:KL:=(cJ (ak ab aa)).filter λx=>decide (az x.1<=d1)
abbrev rQ (d:Int)(l:KL):List (Nat×List Bs):=(iE ab aa d l).map λx=>(x.2,uq ab aa x)
theorem Cp (h:x∈cJ (ak ab aa)):ab[x.2]? = some x.1/\x∈ak ab aa:=by
 have:=(vN ((bg _ _).mem_iff.mp h)).1;exact⟨bq this,this⟩
theorem zm:(cE ab aa d2).filter (λn=>decide (dN ab n<=d1))=fD (rQ ab aa d2 (oB ab aa d1)):=by
 have dn:∀x∈cJ (ak ab aa),dN ab x.2=az x.1:=λx hx=>by unfold dN;rw[(Cp ab aa hx).1];rfl
 have e:cE ab aa d2=(rQ ab aa d2 ((cJ (ak ab aa)).filter λx=>!decide (az x.1<=d1))).foldl dW (fD (rQ ab aa d2 (oB ab aa d1))):=by
  unfold cE fD rQ iE;rw[←List.foldl_append,←uW,←List.filter_append,zl (λx:D×Nat=>az x.1) d1 _ (GC _)]
 rw[e,zk _ _ _ λp hp=>?_]
 ·refine List.filter_eq_self.mpr λn hn=>?_;rcases kP _ _ _ hn with z|z
  ·cases z
  ·obtain⟨p,hp,rfl⟩:=vO z;obtain⟨x,hx,rfl⟩:=vO hp;obtain⟨h1,h2⟩:=vN (vN hx).1;rw[dn x h1];exact h2
 ·obtain⟨x,hx,rfl⟩:=vO hp;obtain⟨h1,h2⟩:=vN (vN hx).1;rw[dn x h1];simpa using h2
theorem zn:cE ab aa d1=fD (rQ ab aa d1 (oB ab aa d1)):=by
 unfold cE rQ iE oB;rw[List.filter_filter];congr 3;funext x;unfold zf;cases decide (az x.1<=d1)<;>cases decide (kindOf x.1∈bN)<;>cases ig ab aa x.1<;>cases (iu ab aa x.2 x.1 d1).isEmpty<;>rfl
theorem kQ (ri:Nat)(r:D)(day:Int):(iu ab aa ri r day).isEmpty=true↔(aS r<=aa/\kindOf r∈bN->∀x∈ak ab aa,nJ ab aa ri r day x.1=false):=by
 unfold iu;split
 ·rename_i h;rw[List.isEmpty_iff,List.map_eq_nil_iff,List.filter_eq_nil_iff];exact⟨λk _ x hx=>by simpa using k x hx,λk x hx=>by simp[k h x hx]⟩
 ·rename_i h;exact⟨λ_ k=>absurd k h,λ_=>rfl⟩
variable {ab aa d1 d2}
theorem Ny (h:d1<=d2){ri:Nat}{r c:D}(k:nJ ab aa ri r d2 c=false):nJ ab aa ri r d1 c=false:=by
 unfold nJ at k ⊢;cases a1:decide (kindOf c = "call")<;>cases a2:decide (gF 2 c=ri)<;>cases a3:decide (az c<=d1)<;>simp_all
 have:az c<=d2:=by omega
 exact k this
theorem Nz (h:d1<=d2){ri:Nat}{r c:D}(n:kindOf c = "call"->¬(d1<az c/\az c<=d2)):nJ ab aa ri r d1 c=nJ ab aa ri r d2 c:=by
 unfold nJ;by_cases a:kindOf c = "call"
 ·have:decide (az c<=d1)=decide (az c<=d2):=by have:=n a;congr 1;exact propext (by omega)
  rw[this]
 ·rw[decide_eq_false a];rfl
theorem GD {l:KL}{p q:D×Nat->Bool}(h:∀x∈l,q x=true->p x=true):(l.filter q).Sublist (l.filter p):=by
 have e:l.filter q=(l.filter p).filter q:=by
  rw[List.filter_filter];refine List.filter_congr λx hx=>?_;cases k:q x with
  |false=>rfl
  |true=>rw[h x hx k];rfl
 rw[e];exact List.filter_sublist
theorem GF (h:d1<=d2):(iE ab aa d2 (oB ab aa d1)).Sublist (iE ab aa d1 (oB ab aa d1)):=GD λx hx q=>by
 have hd:az x.1<=d1:=of_decide_eq_true (vN hx).2;rw[vC]at q;unfold zf at q ⊢;rw[vC,vC]at q;rw[q.1,q.2.1.1,decide_eq_true hd,(kQ ab aa _ _ _).mpr λk y hy=>Ny h ((kQ ab aa _ _ _).mp q.2.2 k y hy)];rfl
theorem J8 (h:d1<=d2)(n:∀c∈ab,aS c<=aa->kindOf c = "call"->¬(d1<az c/\az c<=d2)):iE ab aa d2 (oB ab aa d1)=iE ab aa d1 (oB ab aa d1):=by
 unfold iE;refine List.filter_congr λx hx=>?_;have hd:az x.1<=d1:=of_decide_eq_true (vN hx).2;unfold zf;have:(iu ab aa x.2 x.1 d2).isEmpty=(iu ab aa x.2 x.1 d1).isEmpty:=by
  rw[Bool.eq_iff_iff,kQ,kQ];have q:∀y∈ak ab aa,nJ ab aa x.2 x.1 d1 y.1=nJ ab aa x.2 x.1 d2 y.1:=λy hy=>Nz h (n _ (vL (bq hy)) (of_decide_eq_true (vN hy).2));exact⟨λk a y hy=>(q y hy).trans (k a y hy),λk a y hy=>(q y hy).symm.trans (k a y hy)⟩
 rw[this,decide_eq_true hd,decide_eq_true (Int.le_trans hd h)]
theorem GG (h:d1<=d2):∀n∈(cE ab aa d2).filter (λn=>decide (dN ab n<=d1)),n∈cE ab aa d1:=by
 rw[zm,zn];exact DI ((GF h).map _) λ_ h=>h
theorem AM (h:d1<=d2)(n:∀c∈ab,aS c<=aa->kindOf c = "call"->¬(d1<az c/\az c<=d2)):(cE ab aa d2).filter (λn=>decide (dN ab n<=d1))=cE ab aa d1:=by
 rw[zm,zn];unfold rQ;rw[J8 h n]
end
theorem dated (g:bY r):∃a k q,r=row a k q/\(k ≠ "root"->∃q',q=.int (az r)::q'):=by
 obtain⟨a,k,q,rfl,d⟩:=g;refine⟨a,k,q,rfl,λh=>?_⟩;cases d with
 |root=>exact absurd rfl h
 |_=>exact⟨_,rfl⟩
theorem Cq (g:bY r):∃d,b7 r (.int 1)=sF d/\b7 d (.int 0)=sF (.str (kindOf r))/\b7 r (.int 0)=sF (.int (aS r))/\(kindOf r ≠ "root"->b7 d (.int 1)=sF (.int (az r))):=by
 obtain⟨a,k,q,e,h⟩:=dated g;refine⟨.tup (.str k::q),?_,?_,?_,λn=>?_⟩
 ·rw[e];simp[row,Ei]
 ·rw[e];simp[kindOf,row,Eh]
 ·rw[e];simp[aS,row,Eh]
 ·obtain⟨q',e'⟩:=h (by rw[e]at n;exact n);rw[e'];simp[Ei]
theorem zo {fX:List Int}{j:Nat}{d:Int}(h:fX[j]? = some d):b7 (.lst (fX.map .int)) (.int (j:Int))=sF (.int d):=by
 obtain⟨hl,e⟩:=vV h;rw[wt (Int.natCast_nonneg j) (by simpa using hl)];simp[hl,e]
theorem DJ (h:n∈cE ab aa d):∃r,ab[n]? = some r/\kindOf r∈bN:=by
 rcases kP _ _ _ h with z|z
 ·cases z
 ·obtain⟨p,hp,rfl⟩:=vO z;obtain⟨x,hx,rfl⟩:=vO hp;obtain⟨h1,h2⟩:=vN hx;rw[vC]at h2;exact⟨_,(Cp ab aa h1).1,of_decide_eq_true h2.1⟩
theorem J9 (h:kindOf r∈bN):kindOf r ≠ "root":=of_decide_eq_false (wJ h)
theorem GH {ab:List D}(g:∀r∈ab,bY r)(hl:ab.length<=30){aa d1 d2:Int}{fX:List Int}{i:Nat}(h1:fX[i]? = some d1)(h2:fX[i+1]? = some d2)(hd:d1<=d2)(es:ib [.tup ab,.int aa,.int d2]=lT (cU (cE ab aa d2)))(hS:(cE ab aa d2).length<=60)
  (v0 v1 v2 v6 v7 wN ux z6:OB) (b5 b8:Bool):∃w0 w1 w2 w6 w7 Oc Od L0,A8 [v0,v1,v2,sF (.tup ab),sF (.int aa),some (.lst (fX.map .int),b5),v6,v7,some (.lst (cU (cE ab aa d1)),b8),sF (.int ((i+1:Nat):Int)),wN,ux,z6] =
   some (.nx [w0,w1,w2,sF (.tup ab),sF (.int aa),sF (.lst (fX.map .int)),w6,w7,sF (.lst (cU (cE ab aa d2))),sF (.int ((i+1:Nat):Int)),Oc,Od,L0]):=by
 have hs:=GG (ab:=ab) (aa:=aa) hd;have hq:=AM (ab:=ab) (aa:=aa) hd;have AS:∀n∈cE ab aa d2,∃r,ab[n]? = some r/\kindOf r∈bN:=λn hn=>DJ hn;generalize cE ab aa d2=S2 at *;generalize cE ab aa d1=S1 at *;let p:Nat->Bool:=λn=>decide (dN ab n<=d1);let c:D->Bool:=λr=>decide (aS r<=aa) && (decide (kindOf r = "call") && (decide (d1<az r) && decide (az r<=d2)));let A:OB->OB->DL.Env:=λZc UH=>[v0,v1,v2,sF (.tup ab),sF (.int aa),some (.lst (fX.map .int),b5),v6,v7,some (.lst (cU S1),b8),sF (.int ((i+1:Nat):Int)),lT (cU S2),Zc,UH];have zu:oJ (.int ((i+1:Nat):Int)) (.int 1)=sF (.int (i:Int)):=by
  show some (D.int (((i+1:Nat):Int) - 1),false)=_;rw[show((i+1:Nat):Int) - 1=(i:Int) by omega]
 have Rk:(js S2).length<=60:=by unfold js;rw[(bg _ _).length_eq];exact hS
 have f1:=gE (fi:=cm (ai 10)) (nT:=1) (cap:=[5,9,3]) (tg:=dE 0) (c:=bp (f2 sU (f2 b7 (f2 b7 (f2 b7 (ai 3) (ai 0)) (fI 1)) (fI 1)) (f2 b7 (ai 1) (f2 oJ (ai 2) (fI 1))))) (fe:=ai 0) (ρ:=A ux z6) (js S2) (λ(n:Nat)=>.int (n:Int)) p (λ(n:Nat)=>.int (n:Int))
  (by show some (cU S2)=_;rw[p4]) (by omega) λn hn=>by
   obtain⟨r,hr,hk⟩:=AS n (nM.mp hn);obtain⟨d,x1,_,_,x2⟩:=Cq (g r (vL hr));refine⟨[sF (.int n),sF (.lst (fX.map .int)),sF (.int ((i+1:Nat):Int)),sF (.tup ab)],rfl,cY (bw (.int (az r)) (.int d1) (bw d (.int 1) (bw r (.int 1) (bw (.tup ab) (.int n) rfl rfl ?_) rfl x1) rfl (x2 (J9 hk))) (bw (.lst (fX.map .int)) (.int (i:Int)) rfl (bw (.int ((i+1:Nat):Int)) (.int 1) rfl rfl zu) (zo h1)) ?_),λ_=>⟨false,rfl⟩⟩
   ·simp[c6 hr]
   ·show some (D.bl (decide (az r<=d1)),false)=some (D.bl (decide (dN ab n<=d1)),false);unfold dN;rw[hr];rfl
 rw[show((js S2).filter p).map (λ(n:Nat)=>D.int (n:Int))=cU (S2.filter p) by rw[p4,mN]]at f1;have zy:(js (S2.filter p)).length<=60:=by rw[mN];exact vR (vM _ _) Rk
 let B:OB->DL.Env:=λUH=>A (lT (cU (S2.filter p))) UH;have f2:=oi (fi:=cm (ai 11)) (nT:=1) (cap:=[8]) (tg:=dE 0) (fe:=f2 z9 (ai 0) (ai 1)) (ρ:=B z6) (js (S2.filter p)) (λ(n:Nat)=>.int (n:Int)) (λ_=>.bl true)
  (by show some (cU (S2.filter p))=_;rw[p4]) (by omega) λn hn=>by
   refine⟨[sF (.int n),sF (.lst (cU S1))],rfl,false,bw (.int n) (.lst (cU S1)) rfl rfl ?_⟩;rw[J7,decide_eq_true (hs n (nM.mp hn))]
 have t2:bp (fA MF (af (bO (cm (ai 11)) 1 [8] (dE 0) gQ (DL.f2 z9 (ai 0) (ai 1))) aj)) (B z6)=some true:=by
  refine cY (aL [.lst ((js (S2.filter p)).map λ_=>.bl true)] (aF f2 rfl) ?_);show(pH _).map _=_;rw[qy (λ_=>true),Option.map_some];congr 3;rw[List.all_eq_true];intro b hb;obtain⟨_,_,rfl⟩:=vO hb;rfl
 have f3:=gE (fi:=cm (ai 3)) (nT:=1) (cap:=[4,5,9]) (tg:=dE 0) (c:=dj (bp (DL.f2 sU (du 0 0) (ai 1))) (dj (bp (DL.f2 eB (DL.f2 b7 (du 0 1) (fI 0)) (fS "call"))) (bp (jx MA sU (DL.f2 b7 (ai 2) (DL.f2 oJ (ai 3) (fI 1))) (DL.f2 b7 (du 0 1) (fI 1)) (DL.f2 b7 (ai 2) (ai 3)))))) (fe:=ai 0) (ρ:=B z6) ab id c id
  (by rw[List.map_id];rfl) (by omega) λr hr=>by
   obtain⟨d,x1,x0,xh,x2⟩:=Cq (g r hr);refine⟨[sF r,sF (.int aa),sF (.lst (fX.map .int)),sF (.int ((i+1:Nat):Int))],rfl,dD (cY (bw (.int (aS r)) (.int aa) (bw r (.int 0) rfl rfl xh) rfl (by simp))) λ_=>dD (cY (bw (.str (kindOf r)) (.str "call") (bw d (.int 0) (bw r (.int 1) rfl rfl x1) rfl x0) rfl (by simp))) λhk=>?_,λ_=>⟨false,rfl⟩⟩;have fJ:kindOf r = "call":=of_decide_eq_true hk;have nr:kindOf r ≠ "root":=by rw[fJ];decide +kernel
   exact cY (qw (x:=.int d1) (y:=.int (az r)) (z:=.int d2) (b1:=false) (b2:=false) (b3:=false) (b4:=false) (bw (.lst (fX.map .int)) (.int (i:Int)) rfl (bw (.int ((i+1:Nat):Int)) (.int 1) rfl rfl zu) (zo h1)) (bw d (.int 1) (bw r (.int 1) rfl rfl x1) rfl (x2 nr)) (bw (.lst (fX.map .int)) (.int ((i+1:Nat):Int)) rfl rfl (zo h2)) (by simp) λ_=>by simp)
 rw[List.map_id]at f3;let C:DL.Env:=B (lT (ab.filter c));have t3:bp (DL.f2 eB (ai 12) (fA bD aj)) C=some (ab.filter c).isEmpty:=by
  refine cY (iD (x:=.lst (ab.filter c)) (y:=.lst []) (b1:=false) (b2:=true) rfl (aL [] rfl (g9 _ (by simp))) ?_);have hp:aq 40 (.lst (ab.filter c))=true:=by
   simp only[aq,List.all_eq_true];exact λr hr=>(g r (vN hr).1).c.rp.plain
  generalize ab.filter c=R at hp;cases R with
  |nil=>exact Tk
  |cons a l=>
   unfold eB;rw[if_pos ⟨hp,by simp[aq]⟩];simp
 have t4:dj (bp (DL.f2 eB (ai 12) (fA bD aj))) (bp (DL.f2 Af (ai 11) (ai 8))) C=some ((ab.filter c).isEmpty && false):=dD t3 λhe=>by
  have:S2.filter p=S1:=hq λr hr a1 a2 a3=>by
   rw[List.isEmpty_iff,List.filter_eq_nil_iff]at he;exact he r hr (by simp[c,a1,a2,a3.1,a3.2])
  have e:DL.f2 Af (ai 11) (ai 8) C=sF (.bl false):=bw (.lst (cU S1)) (.lst (cU S1)) (by show some (D.lst (cU (S2.filter p)),false)=_;rw[this]) rfl (by
   unfold Af;rw[if_pos ⟨lN S1,lN S1⟩,qT 40 _ (lN S1)];rfl)
  exact cY e
 rw[Bool.and_false]at t4;have NM:bx (ab.filter c)=true:=bL λd hd=>(g d (vN hd).1).flat;let u:OB->OB:=λx=>x.map λy=>(y.1,false);refine⟨u v0,u v1,u v2,u v6,u v7,sF (.lst (cU S2)),sF (.lst (cU (S2.filter p))),sF (.lst (ab.filter c)),cf (ds:=cU S2) (aL [.tup ab,.int aa,.int d2] (cj rfl (cj rfl (cj (bw (.lst (fX.map .int)) (.int ((i+1:Nat):Int)) rfl rfl (zo h2)) rfl))) es) (nL S2) (cf (ds:=cU (S2.filter p)) f1 (nL _) (aA (cu t2) (cf (ds:=ab.filter c) f3 NM (aA t4 ?_))))⟩;show(ai 10 C).map _=_;show some (Res.nx (setE C 8 (.lst (cU S2)) false))=_;rw[Jb rfl (.inl rfl)];rfl
theorem JB {ab:List D}(g:∀r∈ab,bY r)(hl:ab.length<=30)(u0 u1 u2 u4:OB):∃(L:List Int)(v6 v7:OB),iC (Hh [6,7]) A7 ab [u0,u1,u2,sF (.tup ab),u4,lT [.int 0,.int 9999],none,none,none,none,none,none,none] =
   some (.nx [u0,u1,u2,sF (.tup ab),u4,lT (L.map .int),v6,v7,none,none,none,none,none])/\0∈L/\L.length<=62:=by
 obtain⟨ρ,e,L,v6,v7,rfl,h0,hL⟩:=gk (tg:=Hh [6,7]) (g:=A7) (λi ρ=>∃(L:List Int)(v6 v7:OB),ρ=[u0,u1,u2,sF (.tup ab),u4,lT (L.map .int),v6,v7,none,none,none,none,none]/\0∈L/\L.length<=2+2*i) ab _ ⟨[0,9999],none,none,rfl,by simp,by simp⟩ (by
  rintro i r ρ hr ⟨L,v6,v7,rfl,h0,hL⟩;have hi:i<ab.length:=(vV hr).1;obtain⟨a,k,q,e,hq⟩:=dated (g r (vL hr));let F:DL.Env:=[u0,u1,u2,sF (.tup ab),u4,lT (L.map .int),sF (.int a),sF (.tup (.str k::q)),none,none,none,none,none];have tg:Hh [6,7] r [u0,u1,u2,sF (.tup ab),u4,lT (L.map .int),v6,v7,none,none,none,none,none]=some F:=by rw[e];rfl
  have t:bp (f2 Af (du 7 0) (fS "root")) F=some (!decide (k = "root")):=G1 (bb:=false) (bw (.tup (.str k::q)) (.int 0) rfl rfl (by simp[Eh]));by_cases hk:k = "root"
  ·rw[decide_eq_true hk]at t;exact⟨F,F,tg,.inl (m5 t rfl),L,_,_,rfl,h0,by omega⟩
  ·rw[decide_eq_false hk]at t;obtain⟨q',e'⟩:=hq hk;have xd:du 7 1 F=sF (.int (az r)):=bw (.tup (.str k::q)) (.int 1) rfl rfl (by rw[e'];simp[Ei]);refine⟨F,[u0,u1,u2,sF (.tup ab),u4,lT ((L++[az r,az r+1]).map .int),sF (.int a),sF (.tup (.str k::q)),none,none,none,none,none],tg,.inl (kW t (px (ds:=(L++[az r,az r+1]).map .int) ?_ (oh _))),_,_,_,rfl,List.mem_append_left _ h0,?_⟩
   ·refine iD (x:=.lst (L.map .int)) (y:=.lst [.int (az r),.int (az r+1)]) (b1:=false) (b2:=true) rfl (aL [.int (az r),.int (az r+1)] (cj xd (cj (bw (.int (az r)) (.int 1) xd rfl rfl) rfl)) (g9 _ (by simp))) ?_;refine(if_pos (show(L.map D.int).length+2<=sizeLine from dm (by rw[vI];omega))).trans ?_;rw[uW];rfl
   ·rw[uZ,vE,vE,List.length_nil];omega)
 exact⟨L,v6,v7,e,h0,by omega⟩
theorem ut:∀L:List Int,mq (L.map .int)=some L
 |[]=>rfl
 |n::L=>by rw[uY,mq,ut L];rfl
theorem Cr {x:Int}:∀(ss ts:List Int),x∈ss.foldl j6 ts↔x∈ts∨x∈ss
 |[],ts=>by simp
 |y::ss,ts=>by rw[List.foldl_cons,Cr ss,pN,List.mem_cons,or_assoc]
theorem law_true (ns:List Int)(_:ns.length<=63):∃b,F_law [.lst (ns.map .int)]=some (.bl true,b):=by
 obtain⟨c0,e0,h0⟩:=iN ns 0;obtain⟨c3,e3,h3⟩:=iN ns 3;obtain⟨c4,e4,h4⟩:=iN ns 4;obtain⟨zs,ez,hz,Zd⟩:=Gp c0 h0;have W1:=mod_lt (x:=c3) (m:=3) (by decide);obtain⟨ms,ZI,Ze⟩:=o9 (ns:=[1,1,500]) (i:=c3 % 3) W1.1 W1.2;obtain⟨ab,erw,Sq,R0,Oa⟩:=Jp ns zs hz ms;have Zf:=mod_lt (x:=c3 / 3) (m:=13) (by decide);have ZJ:=mod_lt (x:=c4) (m:=3) (by decide);obtain⟨aa,Ho,Zg⟩:=o9 (ns:=[9999,c3 / 3 % 13*ms]) (i:=c4 % 3 / 2) (by omega) (by simp;omega);have R4:bu (.tup ab)=true:=by simp[bL λd hd=>(Sq d hd).flat]
 have hn:((bP (ak ab aa)).map (a7 0)).Nodup:=by
  refine List.Nodup.sublist (GB ab aa) ?_;rw[Oa];refine List.Nodup.sublist (List.take_sublist _ _) ?_;obtain⟨x,hx⟩:∃x,zs[5]? = some x:=⟨_,vU (by omega)⟩;obtain⟨y,hy⟩:∃y,zs[6]? = some y:=⟨_,vU (by omega)⟩;have e:zs.drop 5=[x,y]:=by
   refine List.ext_getElem? λj=>?_;rw[List.getElem?_drop];match j with
   |0=>exact hx
   |1=>exact hy
   |j+2=>rw[List.getElem?_eq_none (by omega)];rfl
  rw[e];simp[Zd x y hx hy]
 have ho:(cJ (ak ab aa)).length<=60:=by
  unfold cJ;rw[(bg _ _).length_eq];exact vR (vM _ _) (vR (c7 ab aa) (by omega))
 have W2:=λday=>zi Sq (by omega) aa hn ho day;have Rk:=λday=>ur (ab:=ab) (by omega) aa day;obtain⟨L,v6,v7,e1,Zh,UG⟩:=JB Sq (by omega) (sF (.lst (ns.map .int))) (lT (zs.map .str)) (sF (.int ms)) (sF (.int aa));have NR:(gD (fH L)).length<=62:=by unfold gD;rw[(bg _ _).length_eq];exact vR (ml L) UG
 have Uw:(gD (fH L)).Pairwise (·<=·):=(dI _ _).imp λ{a b} h=>by
  have:=h;unfold Fs at this;rw[List.cons_lt_cons_iff]at this;exact Int.not_lt.mp λz=>this (.inl z)
 have nQ:0<(gD (fH L)).length:=by
  unfold gD;rw[(bg _ _).length_eq];exact List.length_pos_of_mem ((Cr L []).mpr (.inr Zh))
 have UI:f1 qp (ai 5) [sF (.lst (ns.map .int)),lT (zs.map .str),sF (.int ms),sF (.tup ab),sF (.int aa),lT (L.map .int),v6,v7,none,none,none,none,none]=lT ((gD (fH L)).map .int):=by
  show(mq (L.map .int)).bind _=_;rw[ut,vJ,if_pos (by omega)]
 generalize gD (fH L)=fX at *;obtain⟨d0,ON⟩:∃d,fX[0]? = some d:=⟨_,vU nQ⟩;let E:OB->OB->OB->Bool->OB->OB->Int->Bool->OB->OB->OB->OB->DL.Env:=λu0 u1 u2 b5 v6 v7 d b8 v9 wN ux z6=>[u0,u1,u2,sF (.tup ab),sF (.int aa),some (.lst (fX.map .int),b5),v6,v7,some (.lst (cU (cE ab aa d)),b8),v9,wN,ux,z6];obtain⟨ρ2,e2,_⟩:=gk (tg:=dE 9) (g:=A8) (λi ρ=>∃u0 u1 u2 b5 v6 v7 d b8 v9 wN ux z6,ρ=E u0 u1 u2 b5 v6 v7 d b8 v9 wN ux z6/\fX[i]? = some d) (eG 1 (fX.length - 1)) (E (sF (.lst (ns.map .int))) (lT (zs.map .str)) (sF (.int ms)) true v6 v7 d0 true none none none none) ⟨_,_,_,_,_,_,_,_,_,_,_,_,rfl,ON⟩ (by
  rintro i x ρ hx ⟨u0,u1,u2,b5,v6,v7,d,b8,v9,wN,ux,z6,rfl,hd⟩;unfold eG at hx;rw[vA]at hx;obtain⟨j,hj,rfl⟩:=oY hx;obtain⟨fG,hj⟩:=vV hj;rw[List.length_range]at fG;rw[List.getElem_range]at hj;subst hj;obtain⟨d2,JP⟩:∃d,fX[i+1]? = some d:=⟨_,vU (by omega)⟩;have GS:d<=d2:=by
   obtain⟨k1,q1⟩:=vV hd;obtain⟨k2,q2⟩:=vV JP;rw[←q1,←q2];exact List.pairwise_iff_getElem.mp Uw i (i+1) k1 k2 (Nat.lt_succ_self _)
  obtain⟨w0,w1,w2,w6,w7,Oc,Od,L0,e⟩:=GH Sq (by omega) hd JP GS (W2 d2) (Rk d2) u0 u1 u2 v6 v7 wN ux z6 b5 b8;refine⟨_,_,?_,.inl e,w0,w1,w2,false,w6,w7,d2,false,_,Oc,Od,L0,rfl,JP⟩;rw[show(1:Int)+(i:Int)=((i+1:Nat):Int) by omega];rfl)
 refine⟨false,aw rfl (cf (ds:=zs.map .str) (aL [.int c0] (aF (aL [.lst (ns.map .int),.int ((0:Nat):Int)] rfl e0) rfl) ez) (dR zs) (ga (.int ms) ?_ rfl (ga (.tup ab) (aL [.lst (ns.map .int),.lst (zs.map .str),.int ms,.int 18] rfl erw) R4 (ga (.int aa) ?_ rfl (cf (ds:=[.int 0,.int 9999]) (aL [.int 0,.int 9999] rfl (g9 _ (by simp))) rfl (dC (show Qc [3] _ _=_ from kI rfl e1) (cf (ds:=fX.map .int) UI (oh _) (cf (ds:=cU (cE ab aa d0)) (aL [.tup ab,.int aa,.int d0] (cj rfl (cj rfl (cj (bw (.lst (fX.map .int)) (.int ((0:Nat):Int)) rfl rfl (zo ON)) rfl))) (W2 d0)) (nL _) (dC (m6 ?_ e2) (ay rfl))))))))))⟩
 ·exact iD (x:=.lst (([1,1,500]:List Int).map .int)) (y:=.int (c3 % 3)) (b1:=true) (b2:=false) (by simp[sizeLine]) (bw (.int c3) (.int 3) (aL [.lst (ns.map .int),.int ((3:Nat):Int)] rfl e3) rfl (by simp)) Ze
 ·exact iD (x:=.lst (([9999,c3 / 3 % 13*ms]:List Int).map .int)) (y:=.int (c4 % 3 / 2)) (b1:=true) (b2:=false) (aL [.int 9999,.int (c3 / 3 % 13*ms)] (cj rfl (cj (bw (.int (c3 / 3 % 13)) (.int ms) (bw (.int (c3 / 3)) (.int 13) (bw (.int c3) (.int 3) (aL [.lst (ns.map .int),.int ((3:Nat):Int)] rfl e3) rfl (by simp)) rfl (by simp)) rfl (rG (by omega))) rfl)) (g9 _ (by simp))) (bw (.int (c4 % 3)) (.int 2) (bw (.int c4) (.int 3) (aL [.lst (ns.map .int),.int ((4:Nat):Int)] rfl e4) rfl (by simp)) rfl (by simp)) Zg
 ·show(fI 1 _).bind _=_;show(if -1000<=(1:Int)/\(1:Int)<=1000/\-1000<=((fX.map D.int).length:Int)/\((fX.map D.int).length:Int)<=1000 then some (eG 1 (((fX.map D.int).length:Int) - 1).toNat)else none)=_;rw[vI,if_pos (by omega)];congr 2;omega
end Lw
namespace Lw
open PySem PySem.Spec PyProof.Rows L2 DL
noncomputable def fF (i:Nat):Stmt:=PySem.Challenge.pw_sealchain_k32_whole_day_by_day.main.body.getD i (.Pass ⟨0,0,0,0⟩)
structure Tx (w:World)(K:Frag)(mg:Str->Option Value):Prop where
 hX:∃h,K.In h/\h.Ns mainGlobals mg
 d0:eA K "word_of" (fF 7)
 d1:eA K "part_of" (fF 8)
 d2:eA K "day_of" (fF 9)
 d3:eA K "heard" (fF 11)
 d4:eA K "rank" (fF 13)
 d5:eA K "in_order" (fF 15)
 d6:eA K "by_office" (fF 27)
 d7:eA K "roots" (fF 16)
 d8:eA K "is_known" (fF 12)
 d9:eA K "tells" (fF 19)
 d10:eA K "told_of" (fF 20)
 d11:eA K "lives" (fF 21)
 d12:eA K "has_seal" (fF 22)
 d13:eA K "is_sound" (fF 23)
 d14:eA K "lies_in" (fF 1)
 d15:eA K "is_alive" (fF 25)
 d16:eA K "by_since" (fF 26)
 d17:eA K "chief_of" (fF 28)
 d18:eA K "holder_by" (fF 29)
 d19:eA K "is_held_by" (fF 30)
 d20:eA K "is_first_death" (fF 31)
 d21:eA K "counts" (fF 32)
 d22:eA K "new_claim" (fF 33)
 d23:eA K "ended" (fF 34)
 d24:eA K "after_choice" (fF 35)
 d25:eA K "inherited" (fF 36)
 d26:eA K "after_death" (fF 37)
 d27:eA K "claims" (fF 38)
 d28:eA K "is_paper" (fF 41)
 d29:eA K "is_leave" (fF 42)
 d30:eA K "is_borne" (fF 43)
 d31:eA K "covers" (fF 4)
 d32:eA K "reach_bar" (fF 47)
 d33:eA K "office_bar" (fF 48)
 d34:eA K "office_bases" (fF 51)
 d35:eA K "ends_within" (fF 3)
 d36:eA K "is_within" (fF 2)
 d37:eA K "is_ahead" (fF 14)
 d38:eA K "leave_bar" (fF 49)
 d39:eA K "leaves_to" (fF 50)
 d40:eA K "leave_bases" (fF 52)
 d41:eA K "copy_bases" (fF 53)
 d42:eA K "bases_by" (fF 54)
 d43:eA K "may_call" (fF 44)
 d44:eA K "calls_in" (fF 45)
 d45:eA K "calls_by" (fF 46)
 d46:eA K "is_fit" (fF 55)
 d47:eA K "links" (fF 56)
 d48:eA K "bears" (fF 57)
 d49:eA K "stood" (fF 58)
 d50:eA K "standing" (fF 59)
 d51:eA K "_law_cell" (fF 61)
 d52:eA K "_law_names" (fF 62)
 d53:eA K "_law_stretch" (fF 63)
 d54:eA K "_law_deed" (fF 64)
 d55:eA K "_law_rows" (fF 65)
 d56:eA K "law" (fF 66)
 n0:mg "all" = none
 n1:mg "any" = none
 n2:mg "dict" = none
 n3:mg "enumerate" = none
 n4:mg "int" = none
 n5:mg "len" = none
 n6:mg "list" = none
 n7:mg "max" = none
 n8:mg "min" = none
 n9:mg "range" = none
 n10:mg "set" = none
 n11:mg "sorted" = none
 n12:mg "tuple" = none
 k0:KC K mg "PAPERS" y6
 k1:KD w K mg "PARTS" gI
 k2:KC K mg "SEALINGS" hV
 l5:Ax K "in_order"
 l12:Ax K "has_seal"
 l20:Ax K "is_first_death"
 l42:Ax K "bases_by"
section
variable {P:Program}{w:World}{K:Frag}{mg:Str->Option Value}{base:Heap}(T:Tx w K mg)
include T
theorem f0:Fn P w K mg base 1 "word_of" aJ:=T.d0.fq T.hX tS ["row"] 1 λnd hr hu=>
  (bi (aM (bC 0) av))
theorem f1:Fn P w K mg base 2 "part_of" au:=T.d1.fq T.hX tT ["row","part"] 2 λnd hr hu=>
  (bi (aM (bC 0) (ax bf av (IH T.k1 (a9 (f0 T) hr) (ag 1)))))
theorem f2:Fn P w K mg base 3 "day_of" aO:=T.d2.fq T.hX y7 ["row"] 1 λnd hr hu=>
  (am (cy (aK (cM hu) (a9 (f0 T) hr) aB) eF)
   (bi (a9 (f1 T) hr)))
theorem f3:Fn P w K mg base 1 "heard" c9:=T.d3.fq T.hX BK ["book","known"] 2 λnd hr hu=>
  (bi (ji ["number","row","known"] (IB T.n3 (ag 0)) (eS (aK la (bC 1) (ag 2))) (ag 0)))
theorem f4:Fn P w K mg base 4 "rank" eX:=T.d4.fq T.hX FX ["book","number"] 2 λnd hr hu=>
  (bi (aW (ah (bd (f2 T) hr (ah (aM (ag 0) (ag 1)) ao)) (aG 1 ao))))
theorem f5:Fn P w K mg base 8 "in_order" dL:=T.d5.fqL T.hX qz ["book","known","dated"] 2 λnd hr hu jv=>
  (am (lh ["number","book"] nd (cr (a9 (f3 T) hr)) (eS (aK vj (bd (f2 T) hr (ah (aM (ag 1) (ag 0)) ao)) eF)) (ag 0))
   (bi (Fz Fx T.n11 (ag 2) (we (cap:=[0]) (N':=["number","book"]) (by decide +kernel) T.l5 jv rfl rfl (B3 (by decide +kernel) rfl rfl rfl rfl rfl) rfl (.cons rfl rfl (Or.inl rfl) rfl (oZ (by decide +kernel) rfl) (.nil rfl)) rfl hr.in1.in1 (λ_ _ _ _=>rfl) λ_ _ _ _ hr=>have hu:=CT hr;(a9 (f4 T) hr)))))
theorem f6:Fn P w K mg base 1 "by_office" gm:=T.d6.fq T.hX oj ["claim"] 1 λnd hr hu=>
  (bi (aW (ah (bC 0) (ah (bC 0) (ah (bC 0) ao)))))
theorem f7:Fn P w K mg base 3 "roots" gb:=T.d7.fq T.hX BL ["book","known","known_rows"] 2 λnd hr hu=>
  (am (lh ["number","book"] nd (cr (a9 (f3 T) hr)) jW (aM (ag 1) (ag 0)))
   (bi (kB (Na rfl) T.n2 MZ (ah (ji ["row"] (cr (ag 2)) (eS (aK (cM hu) (a9 (f0 T) hr) aB)) (aW (ah (a9 (f1 T) hr) (aG 0 ao)))) ao))))
theorem f8:Fn P w K mg base 1 "is_known" cz:=T.d8.fq T.hX q8 ["book","known","number"] 3 λnd hr hu=>
  (bi (gR (EI la Bk av (ag 2) (bR jI T.n5 jJ (aG 0 ao))) (fM (cC la (aM (aM (ag 0) (ag 2)) av) (ag 1)))))
theorem f9:Fn P w K mg base 4 "tells" pz:=T.d9.fq T.hX BM ["row","words","person","day"] 4 λnd hr hu=>
  (bi (gR (cC xL (a9 (f0 T) hr) (ag 1)) (gR (cC (cM hu) (a9 (f1 T) hr) (ag 2)) (fM (cC la (a9 (f2 T) hr) (ag 3))))))
theorem f10:Fn P w K mg base 5 "told_of" gN:=T.d10.fq T.hX tU ["book","known","words","person","day"] 5 λnd hr hu=>
  (bi (ji ["number","words","person","day","book"] (cr (a9 (f3 T) hr)) (eS (cq (bd (f9 T) hr (ah (aM (ag 4) (ag 0)) (aG 1 (aG 2 (aG 3 ao))))))) (ag 0)))
theorem f11:Fn P w K mg base 6 "lives" m7:=T.d11.fq T.hX BN ["book","known","person","day"] 4 λnd hr hu=>
  (bi (cC (cM hu) (bR jI T.n5 jJ (ah (bd (f10 T) hr (aG 0 (aG 1 (ah (aW (ah aB ao)) (aG 2 (aG 3 ao)))))) ao)) av))
theorem WW:Fn P w K mg base 8 "has_seal" lE:=T.d12.fqL T.hX qA ["book","known","person","day","told"] 4 λnd hr hu jv=>
  (am (aD nd (bd (f10 T) hr (aG 0 (aG 1 (ah (aW (ah aB (ah aB ao))) (aG 2 (aG 3 ao)))))))
   (am (cy (aK (cM hu) (bR jI T.n5 jJ (aG 4 ao)) av) iG)
   (bi (cC (cM hu) (bd (f0 T) hr (ah (aM (ag 0) (yu Vc T.n7 (ag 4) (we (cap:=[0]) (N':=["number","book"]) (by decide +kernel) T.l12 jv rfl rfl (B3 (by decide +kernel) rfl rfl rfl rfl rfl) rfl (.cons rfl rfl (Or.inl rfl) rfl (oZ (by decide +kernel) rfl) (.nil rfl)) rfl hr.in1 (λ_ _ _ _=>rfl) λ_ _ _ _ hr=>have hu:=CT hr;(a9 (f4 T) hr)) hr)) ao)) aB))))
theorem To:Fn P w K mg base 9 "is_sound" fP:=T.d13.fq T.hX qB ["book","known","number","sealer","day"] 3 λnd hr hu=>
  (am (cy (kT (ma (gz (cq (a9 (f8 T) hr))) (ly (aK pF (bd (f0 T) hr (ah (aM (ag 0) (ag 2)) ao)) (xI T.k2))))) iG)
   (am (aD nd (bd (f1 T) hr (ah (aM (ag 0) (ag 2)) (ah aB ao))))
   (am (aD nd (bd (f2 T) hr (ah (aM (ag 0) (ag 2)) ao)))
   (bi (gR (a9 (f11 T) hr) (fM (a9 (WW T) hr)))))))
theorem Vj:Fn P w K mg base 1 "lies_in" jk:=T.d14.fq T.hX tV ["day","stretch"] 2 λnd hr hu=>
  (bi (gR (cC la (bC 1) (ag 0)) (fM (EK (cC EQ (bC 1) eF) (fM (cC Bk (ag 0) (bC 1)))))))
theorem Tp:Fn P w K mg base 2 "is_alive" cK:=T.d15.fq T.hX qC ["claim","day"] 2 λnd hr hu=>
  (bi (bd (Vj T) hr (aG 1 (ah (aW (ah (bC 0) (ah (bC 0) ao))) ao))))
theorem Tq:Fn P w K mg base 1 "by_since" df:=T.d16.fq T.hX qD ["claim"] 1 λnd hr hu=>
  (bi (aW (ah (bC 0) (ah (bC 0) ao))))
theorem WX:Fn P w K mg base 5 "chief_of" lF:=T.d17.fq T.hX qE ["alive","rule"] 2 λnd hr hu=>
  (am (cy (aK (cM hu) (ag 1) aB) (aM (yu Vc T.n7 (ag 0) (B5 (Tq T) (hr.in1.mono (by decide)) rfl) hr) av))
   (bi (aM (yu Tc T.n8 (ag 0) (B5 (Tq T) (hr.in1.mono (by decide)) rfl) hr) av)))
theorem Vk:Fn P w K mg base 6 "holder_by" dM:=T.d18.fq T.hX om ["claimed","root","day","alive","people","person","oldest"] 3 λnd hr hu=>
  (am (lh ["claim","day","root"] nd (cr (ag 0)) (eS (kT (iQ (aK (cM hu) (bC 0) (a9 (f1 T) hr)) (gH (cq (a9 (Tp T) hr)))))) (ag 0))
   (am (aD nd (pT rfl T.n11 T.n10 (ji ["claim"] (cr (ag 3)) jW (bC 0))))
   (am (cy (aK (cM hu) (bR jI T.n5 jJ (aG 4 ao)) av) (aW (ah aB ao)))
   (am (cy (kT (iQ (aK EL (bR jI T.n5 jJ (aG 4 ao)) av) (gH (aK (cM hu) (a9 (f1 T) hr) aB)))) (aW (ah aB (aG 4 ao))))
   (am (aD nd (bd (WX T) hr (aG 3 (ah (a9 (f1 T) hr) ao))))
   (am (aD nd (yu Tc T.n8 (ji ["claim","person"] (cr (ag 3)) (eS (aK (cM hu) (bC 0) (ag 1))) (ag 0)) (B5 (Tq T) (hr.in1.mono (by decide)) rfl) hr))
   (bi (aW (ah aB (aG 5 (ah (bC 6) ao)))))))))))
theorem Tr:Fn P w K mg base 7 "is_held_by" cH:=T.d19.fq T.hX m8 ["claimed","root","person","day"] 4 λnd hr hu=>
  (bi (cC (cM hu) (EZ (a9 (Vk T) hr) Il (Im av)) (aW (ah aB (aG 2 ao)))))
theorem WY:Fn P w K mg base 8 "is_first_death" fQ:=T.d20.fqL T.hX jl ["book","known","number","row","deaths"] 3 λnd hr hu jv=>
  (am (aD nd (aM (ag 0) (ag 2)))
   (am (aD nd (bd (f10 T) hr (aG 0 (aG 1 (ah (aW (ah aB ao)) (ah (a9 (f1 T) hr) (ah (a9 (f2 T) hr) ao)))))))
   (bi (cC (cM hu) (yu Tc T.n8 (ag 4) (we (cap:=[0]) (N':=["each","book"]) (by decide +kernel) T.l20 jv rfl rfl (B3 (by decide +kernel) rfl rfl rfl rfl rfl) rfl (.cons rfl rfl (Or.inl rfl) rfl (oZ (by decide +kernel) rfl) (.nil rfl)) rfl hr.in1 (λ_ _ _ _=>rfl) λ_ _ _ _ hr=>have hu:=CT hr;(a9 (f4 T) hr)) hr) (ag 2)))))
theorem WZ:Fn P w K mg base 10 "counts" m9:=T.d21.fq T.hX y8 ["book","known","so_far","number","row","root"] 4 λnd hr hu=>
  (am (aD nd (aM (ag 0) (ag 3)))
   (am (cy (aK (cM hu) (a9 (f0 T) hr) aB) (a9 (WY T) hr))
   (am (cy (aK pF (a9 (f0 T) hr) (aW (ah aB (ah aB (ah aB ao))))) iG)
   (am (aD nd (F7 (O0 hu) (a9 (f7 T) hr) (a9 (f1 T) hr) ⟨rfl,rfl,rfl,rfl⟩))
   (am (cy (aK EQ (ag 5) eF) iG)
   (am (cy (aK (cM hu) (a9 (f0 T) hr) aB) iG)
   (bi (gR (a9 (To T) hr) (fM (bd (Tr T) hr (aG 2 (aG 5 (ah (a9 (f1 T) hr) (ah (a9 (f2 T) hr) ao))))))))))))))
theorem Vl:Fn P w K mg base 3 "new_claim" gn:=T.d22.fq T.hX oq ["row","since","number"] 3 λnd hr hu=>
  (bi (aW (ah (a9 (f1 T) hr) (ah (a9 (f1 T) hr) (aG 1 (ah eF (aG 2 ao)))))))
theorem Vm:Fn P w K mg base 3 "ended" p0:=T.d23.fq T.hX BO ["so_far","offices","person","day","left","claim"] 4 λnd hr hu=>
  (am (aD nd (bE ao))
   (am (tP (cr (ag 0)) (Eg 5 nd) ge (bv (fm (kT (ma (aK pF (bC 5) (ag 1)) (ma (aK (EN hu) (bC 5) (ag 2)) (ly (gz (kT (ma (cq (a9 (Tp T) hr)) (ly (aK EL (bC 5) (ag 3)))))))))) (bv (iS (i:=4) (ag 5))) (bv (fm (aK Bk (bC 5) (ag 3)) (bv (iS (i:=4) (aW (ah (bC 5) (aG 2 (ah (bC 5) (aG 3 (ah (bC 5) ao)))))))) eU)))))
   (bv (mf 4))))
theorem Xa:Fn P w K mg base 4 "after_choice" hW:=T.d24.fq T.hX km ["so_far","row","number","since","left"] 3 λnd hr hu=>
  (am (aD nd (a9 (f1 T) hr))
   (am (aD nd (bd (Vm T) hr (aG 0 (ah (bE (ah (a9 (f1 T) hr) ao)) (ah (a9 (f1 T) hr) (aG 3 ao))))))
   (bi (ax bf (ag 4) (bE (ah (a9 (Vl T) hr) ao))))))
theorem Xb:Fn P w K mg base 7 "inherited" kn:=T.d25.fq T.hX ot ["book","known","so_far","heirs","number","person","day","told","office","heir"] 5 λnd hr hu=>
  (am (aD nd (bd (f1 T) hr (ah (aM (ag 0) (ag 4)) (ah aB ao))))
   (am (aD nd (bd (f2 T) hr (ah (aM (ag 0) (ag 4)) ao)))
   (am (aD nd (bE ao))
   (am (KS [5,6] (tP (cr (pT rfl T.n11 T.n10 (ji ["claim","person","day"] (cr (ag 2)) (eS (kT (iQ (aK (cM hu) (bC 0) (ag 1)) (gH (cq (a9 (Tp T) hr)))))) (bC 0)))) (Eg 8 nd) ge (am (aD nd (FJ (O0 hu) (ag 3) (aG 8 (aG 5 ao)) ⟨rfl,rfl,rfl,rfl⟩))
   (bv (fm (kT (iQ (aK vj (ag 9) eF) (gH (cq (a9 (f11 T) hr))))) (bv (iS (i:=7) (aW (aG 8 (aG 9 (aG 6 (ah eF (aG 4 ao)))))))) eU)))))
   (bv (mf 7))))))
theorem Xc:Fn P w K mg base 8 "after_death" iU:=T.d26.fq T.hX lm ["book","known","so_far","heirs","number","offices","left"] 5 λnd hr hu=>
  (am (lh ["claim"] nd (cr (ag 2)) jW (bC 0))
   (am (aD nd (bd (Vm T) hr (aG 2 (aG 5 (ah (bd (f1 T) hr (ah (aM (ag 0) (ag 4)) (ah aB ao))) (ah (bd (f2 T) hr (ah (aM (ag 0) (ag 4)) ao)) ao))))))
   (bi (ax bf (ag 6) (a9 (Xb T) hr)))))
theorem Xd:Fn P w K mg base 11 "claims" qG:=T.d27.fq T.hX y9 ["book","known","so_far","heirs","number","row"] 2 λnd hr hu=>
  (am (aD nd (bE ao))
   (am (IS (i:=3) nd)
   (am (tP (cr (a9 (f5 T) hr)) (Eg 4 nd) ge (am (aD nd (aM (ag 0) (ag 4)))
   (am (fm (gz (cq (a9 (WZ T) hr))) (bv Iy) eU)
   (bv (fm (aK (cM hu) (a9 (f0 T) hr) aB) (bv (aD nd (ax bf (ag 2) (bE (ah (bd (Vl T) hr (aG 5 (ah (a9 (f2 T) hr) (aG 4 ao)))) ao))))) (bv (fm (aK (cM hu) (a9 (f0 T) hr) aB) (bv (aD nd (a9 (Xa T) hr))) (bv (fm (aK (cM hu) (a9 (f0 T) hr) aB) (bv (IU (i:=3) (O0 hu) (a9 (f1 T) hr) (ah (a9 (f1 T) hr) (ah (a9 (f1 T) hr) ao)))) (bv (aD nd (a9 (Xc T) hr))))))))))))
   (bi (Fz Fx T.n11 (ag 2) (B5 (f6 T) (hr.in1.in1.mono (by decide)) rfl))))))
theorem Vn:Fn P w K mg base 2 "is_paper" eY:=T.d28.fq T.hX qH ["book","known","number"] 3 λnd hr hu=>
  (bi (gR (a9 (f8 T) hr) (fM (cC xL (bd (f0 T) hr (ah (aM (ag 0) (ag 2)) ao)) (xI T.k0)))))
theorem Vo:Fn P w K mg base 2 "is_leave" fR:=T.d29.fq T.hX qI ["book","known","number"] 3 λnd hr hu=>
  (bi (gR (a9 (f8 T) hr) (fM (cC (cM hu) (bd (f0 T) hr (ah (aM (ag 0) (ag 2)) ao)) aB))))
theorem Ts:Fn P w K mg base 3 "is_borne" dO:=T.d30.fq T.hX qJ ["book","known","number"] 3 λnd hr hu=>
  (bi (EK (a9 (Vo T) hr) (fM (a9 (Vn T) hr))))
theorem Vp:Fn P w K mg base 1 "covers" hZ:=T.d31.fq T.hX qK ["matters","some"] 2 λnd hr hu=>
  (bi (cC (cM hu) (ax PF (ag 0) (ag 1)) (ag 1)))
theorem Vq:Fn P w K mg base 3 "reach_bar" iI:=T.d32.fq T.hX ou ["row","above"] 2 λnd hr hu=>
  (am (cy (gz (cq (bd (Vp T) hr (ah (a9 (f1 T) hr) (ah (a9 (f1 T) hr) ao))))) aB)
   (am (cy (kT (iQ (aK (cM hu) (a9 (f0 T) hr) aB) (gH (aK SN (a9 (f1 T) hr) (a9 (f1 T) hr))))) aB)
   (bi eF)))
theorem Xe:Fn P w K mg base 8 "office_bar" gK:=T.d33.fq T.hX mB ["claimed","row","root"] 3 λnd hr hu=>
  (am (cy (gz (cq (bd (Tr T) hr (aG 0 (aG 2 (ah (a9 (f1 T) hr) (ah (a9 (f2 T) hr) ao))))))) aB)
   (bi (a9 (Vq T) hr)))
theorem Xf:Fn P w K mg base 9 "office_bases" ia:=T.d34.fq T.hX ko ["book","known","claimed","number","row","bearing"] 4 λnd hr hu=>
  (am (aD nd (aM (ag 0) (ag 3)))
   (am (lh ["root","claimed","row"] nd (BC (a9 (f7 T) hr)) (eS (aK EQ (a9 (Xe T) hr) eF)) (ag 0))
   (bi (ji ["root","claimed","row"] (cr (ag 5)) jW (aW (ah aB (ah (a9 (f1 T) hr) (ah (aM (bd (Vk T) hr (aG 1 (aG 0 (ah (a9 (f2 T) hr) ao)))) av) ao))))))))
theorem Xg:Fn P w K mg base 1 "ends_within" iV:=T.d35.fq T.hX ln ["stop","bound"] 2 λnd hr hu=>
  (am (cy (aK EQ (ag 1) eF) iG)
   (bi (gR (cC vj (ag 0) eF) (fM (cC la (ag 0) (ag 1))))))
theorem Xh:Fn P w K mg base 2 "is_within" iJ:=T.d36.fq T.hX oy ["one","other"] 2 λnd hr hu=>
  (bi (gR (cC la (bC 1) (bC 0)) (fM (bd (Xg T) hr (ah (bC 0) (ah (bC 1) ao))))))
theorem Vr:Fn P w K mg base 5 "is_ahead" fT:=T.d37.fq T.hX qL ["book","one","other"] 3 λnd hr hu=>
  (bi (cC (Qj hu) (a9 (f4 T) hr) (a9 (f4 T) hr)))
theorem Xi:Fn P w K mg base 6 "leave_bar" iK:=T.d38.fq T.hX oz ["book","number","leave","row","stretch"] 3 λnd hr hu=>
  (am (aD nd (aM (ag 0) (ag 1)))
   (am (aD nd (bd (f1 T) hr (ah (aM (ag 0) (ag 2)) (ah aB ao))))
   (am (cy (gz (cq (a9 (Vr T) hr))) aB)
   (am (cy (kT (ma (gz (cq (bd (Vj T) hr (ah (a9 (f2 T) hr) (aG 4 ao))))) (ly (gz (cq (bd (Xh T) hr (ah (a9 (f1 T) hr) (aG 4 ao)))))))) aB)
   (bi (bd (Vq T) hr (aG 3 (ah (aM (ag 0) (ag 2)) ao))))))))
theorem Xj:Fn P w K mg base 3 "leaves_to" kq:=T.d39.fq T.hX o0 ["book","known","person","leaves"] 3 λnd hr hu=>
  (am (lh ["number","book","known"] nd (cr (a9 (f3 T) hr)) (eS (cq (a9 (Vo T) hr))) (ag 0))
   (bi (ji ["number","person","book"] (cr (ag 3)) (eS (aK (cM hu) (bd (f1 T) hr (ah (aM (ag 2) (ag 0)) (ah aB ao))) (ag 1))) (ag 0))))
theorem Xk:Fn P w K mg base 7 "leave_bases" iW:=T.d40.fq T.hX lq ["book","known","number","leaves"] 3 λnd hr hu=>
  (am (aD nd (bd (Xj T) hr (aG 0 (aG 1 (ah (bd (f1 T) hr (ah (aM (ag 0) (ag 2)) (ah aB ao))) ao)))))
   (bi (ji ["leave","book","number"] (cr (ag 3)) (eS (aK EQ (a9 (Xi T) hr) eF)) (aW (ah aB (aG 0 ao))))))
theorem Xl:Fn P w K mg base 6 "copy_bases" j9:=T.d41.fq T.hX mC ["book","known","number","of"] 3 λnd hr hu=>
  (am (aD nd (bd (f1 T) hr (ah (aM (ag 0) (ag 2)) (ah aB ao))))
   (am (cy (kT (iQ (cq (a9 (Vn T) hr)) (gH (cq (a9 (Vr T) hr))))) (bE (ah (aW (ah aB (aG 3 ao))) ao)))
   (bi (bE ao))))
theorem Xm:Fn P w K mg base 10 "bases_by" eZ:=T.d42.fqL T.hX qM ["book","known","claimed","number","found"] 4 λnd hr hu jv=>
  (am (cy (gz (cq (a9 (Ts T) hr))) (bE ao))
   (am (cy (aK (cM hu) (bd (f0 T) hr (ah (aM (ag 0) (ag 3)) ao)) aB) (a9 (Xl T) hr))
   (am (aD nd (ax bf (a9 (Xf T) hr) (a9 (Xk T) hr)))
   (bi (Fz (FN hu) T.n11 (ag 4) (we (cap:=[]) (N':=["base"]) (by decide +kernel) T.l42 jv rfl rfl (B3 (by decide +kernel) rfl rfl rfl rfl rfl) rfl (.nil rfl) rfl hr.in1.in1 (λ_ _ _ _=>rfl) λ_ _ _ _ hr=>have hu:=CT hr;(aW (ah (aM (ag 0) (Ku KI av)) (aG 0 ao)))))))))
theorem Xn:Fn P w K mg base 8 "may_call" lG:=T.d43.fq T.hX qN ["book","known","claimed","call","number","row","caller","over"] 5 λnd hr hu=>
  (am (aD nd (aM (ag 0) (ag 4)))
   (am (aD nd (bd (f1 T) hr (ah (aM (ag 0) (ag 3)) (ah aB ao))))
   (am (cy (aK (cM hu) (ag 6) (a9 (f1 T) hr)) iG)
   (am (cy (aK (cM hu) (a9 (f0 T) hr) aB) iG)
   (am (lh ["root","row"] nd (BC (a9 (f7 T) hr)) (eS (cq (bd (Vp T) hr (ah (a9 (f1 T) hr) (ah (a9 (f1 T) hr) ao))))) (ag 0))
   (bi (bR KN T.n1 KO (ah (ji ["root","claimed","caller","book","call"] (cr (ag 7)) jW (bd (Tr T) hr (aG 1 (aG 0 (aG 2 (ah (bd (f2 T) hr (ah (aM (ag 3) (ag 4)) ao)) ao)))))) ao))))))))
theorem Xo:Fn P w K mg base 10 "calls_in" jA:=T.d44.fq T.hX qO ["book","known","claimed","call","number","day","row"] 6 λnd hr hu=>
  (am (aD nd (aM (ag 0) (ag 3)))
   (am (cy (kT (ma (aK (EN hu) (a9 (f0 T) hr) aB) (ma (aK (EN hu) (a9 (f1 T) hr) (ag 4)) (ly (aK EL (a9 (f2 T) hr) (ag 5)))))) iG)
   (bi (gR (a9 (To T) hr) (fM (a9 (Xn T) hr))))))
theorem Xp:Fn P w K mg base 11 "calls_by" lH:=T.d45.fq T.hX qP ["book","known","claimed","number","day"] 5 λnd hr hu=>
  (am (cy (gz (cq (a9 (Ts T) hr))) (bE ao))
   (bi (ji ["call","book","known","claimed","number","day"] (cr (a9 (f3 T) hr)) (eS (cq (a9 (Xo T) hr))) (ag 0))))
theorem Xq:Fn P w K mg base 12 "is_fit" mD:=T.d46.fq T.hX yA ["book","known","claimed","number","day"] 5 λnd hr hu=>
  (am (cy (kT (ma (gz (cq (a9 (To T) hr))) (ly (aK EL (bd (f2 T) hr (ah (aM (ag 0) (ag 3)) ao)) (ag 4))))) iG)
   (bi (cC (cM hu) (bR jI T.n5 jJ (ah (a9 (Xp T) hr) ao)) av)))
theorem Xr:Fn P w K mg base 13 "links" wu:=T.d47.fq T.hX BP ["book","known","day","claimed","found","number"] 3 λnd hr hu=>
  (am (Ii (i:=3) nd (a9 (Xd T) hr))
   (am (BB (i:=4) nd)
   (am (tP (cr (a9 (f5 T) hr)) (Eg 5 nd) ge (bv (fm (kT (iQ (cq (a9 (Ts T) hr)) (gH (cq (a9 (Xq T) hr))))) (bv (FU (i:=4) (O0 hu) (a9 (Xm T) hr) (ag 5))) eU)))
   (bv (mf 4)))))
theorem Xs:Fn P w K mg base 1 "bears" mE:=T.d48.fq T.hX BQ ["base","among"] 2 λnd hr hu=>
  (bi (EK (cC (cM hu) (bC 0) aB) (fM (Ni (O0 hu) (bC 0) (ag 1)))))
theorem Xt:Fn P w K mg base 2 "stood" ww:=T.d49.fq T.hX BR ["found","stands","number","resting"] 1 λnd hr hu=>
  (am (BB (i:=1) nd)
   (am (tP (FR (ag 0)) (u5 rfl (gd (Eg 2 nd) (gd (Eg 3 nd) oW))) KP (bv (fm (cq (bR KN T.n1 KO (ah (ji ["base","stands"] (cr (ag 3)) jW (a9 (Xs T) hr)) ao))) (bv (IT (i:=1) (O0 hu) iG (ag 2))) eU)))
   (bv (mf 1))))
theorem Vs:Fn P w K mg base 14 "standing" ib:=T.d50.fq T.hX qQ ["book","known","day"] 3 λnd hr hu=>
  (bi (bR (Dz rfl) T.n11 ya (ah (bd (Xt T) hr (ah (a9 (Xr T) hr) ao)) ao)))
theorem JD:Fn P w K mg base 1 "_law_cell" dP:=T.d51.fq T.hX yD ["_law_script","_law_k","_law_cell_here"] 2 λnd hr hu=>
  (am (aD nd av)
   (am (fm (aK EL (bR jI T.n5 jJ (aG 0 ao)) av) (bv (aD nd (aM (ag 0) (ax bH (ag 1) (bR jI T.n5 jJ (aG 0 ao)))))) eU)
   (am (aD nd (ax bH (ax da (ax bf (ax bf (ax bH (ag 2) av) (ax da av (ag 1))) av) av) av))
   (bi (ax bH (ax da (ag 2) (ax bf (ax bf (ax bH (ag 2) av) (ag 1)) av)) av)))))
theorem Xu:Fn P w K mg base 1 "_law_names" nv:=T.d52.fq T.hX tW ["_law_cell_here","_law_letters","_law_base","_law_at","_law_names_here","_law_k","_law_name"] 1 λnd hr hu=>
  (am (aD nd aB)
   (am (lh ["_law_k","_law_letters","_law_cell_here"] nd (ET T.n9 (ax bf av (ax bH (ag 0) av))) jW (aM (ag 1) (ax bH (ax bJ (ag 2) (ax bf av (ax da av (ag 0)))) av)))
   (am (aD nd (ax bH (ax bJ (ag 0) av) (bR jI T.n5 jJ (aG 2 ao))))
   (am (aD nd (bE ao))
   (am (BE (mh T.n9 av) (Eg 5 nd) ge (am (aD nd (kB MO T.n6 MB (aG 2 ao)))
   (am (Fc (i:=6) (aM (ag 1) (ax bH (ax bf (ax bJ (ag 0) av) (ax da av (ag 5))) av)) (ag 3))
   (bv (iS (i:=4) (MH PySem.F.slot_str_join PySem.F.type_str_join MJ Fa aB (ag 6)))))))
   (am (fm (aK (cM hu) (ax bH (ax bJ (ag 0) av) av) av) (bv (Fc (i:=4) (bC 4) av)) eU)
   (bv (mf 4))))))))
theorem Vt:Fn P w K mg base 1 "_law_stretch" gp:=T.d53.fq T.hX o3 ["_law_cell_here","_law_day","_law_measure","_law_some"] 3 λnd hr hu=>
  (am (aD nd (bE (ah (aW (bU (ah eF ao))) (ah (aW (aG 1 (ah eF ao))) (ah (aW (aG 1 (ah (ax bf (ag 1) (ax da av (ag 2))) ao))) (ah (aW (bU (ah (ax bf (ag 1) (ax da av (ag 2))) ao))) (ah (aW (bU (ah (ax da av (ag 2)) ao))) ao)))))))
   (am (aD nd (ax bf (ag 3) (bE (ah (aW (ah (ax bf (ag 1) (ag 2)) (ah (ax bf (ag 1) (ax da av (ag 2))) ao))) (ah (aW (ah (ax bJ (ag 1) av) (ah (ax bf (ag 1) (ax da av (ag 2))) ao))) (ah (aW (bU (ah eF ao))) ao))))))
   (bi (aM (ag 3) (ax bH (ag 0) av)))))
theorem Xv:Fn P w K mg base 2 "_law_deed" qR:=T.d54.fq T.hX yE ["_law_many","_law_cell_here","_law_other","_law_names_here","_law_day","_law_had","_law_measure","_law_kinds","_law_word","_law_by","_law_person","_law_of","_law_matters","_law_further","_law_start"] 7 λnd hr hu=>
  (am (aD nd (ax bf (ax bf (FH (bE (ah aB ao)) av) (FH (bE (ah aB ao)) av)) (bE (ah aB (ah aB (ah aB (ah aB (ah aB ao))))))))
   (am (aD nd (ax bf (ag 7) (bE (ah aB (ah aB (ah aB (ah aB (ah aB (ah aB ao)))))))))
   (am (aD nd (aM (ag 7) (ax bH (ag 1) av)))
   (am (aD nd (aM (ag 5) (ax xq (Ku KI av) (ax bH (ax bJ (ag 1) av) (bR PR T.n8 PM (bU (ah (bR jI T.n5 jJ (aG 5 ao)) ao)))))))
   (am (fm (aK (cM hu) (ax bH (ax bJ (ag 1) av) av) av) (bv (aD nd (aM (ag 3) (ax bH (ax bJ (ag 1) av) av)))) eU)
   (am (aD nd (aM (ag 3) (ax bH (ax bJ (ag 1) av) av)))
   (am (aD nd (bR PQ T.n7 PL (bU (ah (ax xq (ax xq (ag 0) av) (ax bH (ag 2) av)) ao))))
   (am (fm (aK (cM hu) (ax bH (ax bJ (ag 2) av) av) av) (bv (aD nd (ax bH (ax bJ (ag 2) av) av))) eU)
   (am (fm (aK (cM hu) (ag 8) aB) (am (aD nd (by refine aM (hs:=?_) ?_ ?_;refine bE ?_;refine bU ?_;refine bU ?_;refine bU ?_;refine bU ?_;refine bU ?_;refine bU ?_;refine bU ?_;refine bU ?_;exact ao;exact(ax bH (ax bJ (ag 1) av) av);intro _ _;rfl))
   (am (aD nd (ax bH (ax bJ (ag 2) av) (aM (bE (bU (bU (bU (bU ao))))) (ax bH (ax bJ (ag 2) av) av))))
   (bi (aW (aG 8 (aG 4 (aG 9 (aG 10 (aG 12 (ah (bd (Vt T) hr (ah (ax bJ (ag 2) av) (aG 4 (aG 6 ao)))) (aG 13 ao))))))))))) eU)
   (am (fm (kT (ma (aK (cM hu) (ag 8) aB) (ly (aK (cM hu) (ag 8) aB)))) (am (aD nd (by refine aM (hs:=?_) ?_ ?_;refine bE ?_;refine bU ?_;refine bU ?_;refine bU ?_;refine bU ?_;refine bU ?_;refine bU ?_;refine bU ?_;refine bU ?_;exact ao;exact(ax bH (ax bJ (ag 1) av) av);intro _ _;rfl))
   (am (aD nd (aW (aG 8 (aG 4 (aG 9 (aG 12 (ah (bd (Vt T) hr (ah (ax bJ (ag 2) av) (aG 4 (aG 6 ao)))) (ah (aM (bE (ah eF (aG 10 ao))) (ax bH (ax bJ (ag 2) av) av)) ao))))))))
   (am (cy (aK (cM hu) (ag 8) aB) (ax F5 (ag 14) (aW (aG 11 (ah (aW (ah (aW (bU (aG 10 ao))) ao)) ao)))))
   (bi (ax F5 (ag 14) (aW (ah (aW (aG 10 ao)) ao))))))) eU)
   (am (cy (aK xL (ag 8) (aW (ah aB (ah aB ao)))) (aW (aG 8 (aG 4 (aG 9 (aG 11 ao))))))
   (am (cy (aK (cM hu) (ag 8) aB) (aW (aG 8 (aG 4 (ah (aM (ag 3) (ax bf av (ax bH (ag 2) av))) (aG 10 ao))))))
   (am (cy (aK (cM hu) (ag 8) aB) (aW (aG 8 (aG 4 (aG 9 (ah (aM (ag 3) (ax bf av (ax bH (ag 2) av))) (aG 10 (ah (ax bf (ag 4) (ax da (ax bH (ax bJ (ag 2) av) av) (ag 6))) ao))))))))
   (am (cy (aK (cM hu) (ag 8) aB) (aW (aG 8 (aG 4 (aG 9 (ah (aM (ag 3) (ax bf av (ax bH (ag 2) av))) (aG 10 ao)))))))
   (bi (aW (aG 8 (aG 4 (aG 9 ao)))))))))))))))))))
theorem Xw:Fn P w K mg base 3 "_law_rows" qS:=T.d55.fq T.hX yF ["_law_script","_law_names_here","_law_measure","_law_most","_law_head","_law_rows_here","_law_had","_law_k","_law_rule","_law_matters","_law_late","_law_further","_law_cell_here","_law_day","_law_deed_here"] 4 λnd hr hu=>
  (am (aD nd (bd (JD T) hr (aG 0 (bU ao))))
   (am (aD nd (bE ao))
   (am (aD nd (bE ao))
   (am (BE (mh T.n9 (ax bf av (ax bH (ag 4) av))) (Eg 7 nd) ge (am (aD nd (aM (bE (ah aB (ah aB (ah aB ao)))) (ax bH (ax bJ (ag 4) (ax bf av (ax da av (ag 7)))) av)))
   (am (aD nd (aM (bE (bU (bU (bU (bU ao))))) (ax bH (ax bJ (ag 4) (ax bf av (ax da av (ag 7)))) av)))
   (am (aD nd (ax da (ax da (kB Qd T.n4 PP (ah (cC (cM hu) (ax bH (ax bJ (ag 4) (ax bf av (ag 7))) av) av) ao)) av) (ag 2)))
   (am (aD nd (ax bH (ax bJ (ag 4) (ax bf av (ax da av (ag 7)))) (aM (bE (bU (bU (bU ao)))) (ax bH (ax bJ (ag 4) (ax bf av (ag 7))) av))))
   (am (iS (i:=5) (aW (aG 10 (ah (aW (ah aB (ah (aM (ag 1) (ax bf av (ag 7))) (aG 9 (aG 11 (aG 8 ao)))))) ao))))
   (am (iS (i:=5) (aW (bU (ah (aW (ah aB (bU (ah (aM (ag 1) (ax bf av (ag 7))) (ah (aM (ag 1) (ag 7)) ao))))) ao))))
   (bv (iS (i:=6) (aM (ag 1) (ag 7)))))))))))
   (am (BE (mh T.n9 (ax bf av (ax bH (bd (JD T) hr (aG 0 (bU ao))) (ag 3)))) (Eg 7 nd) ge (am (aD nd (bd (JD T) hr (aG 0 (ah (ax bf av (ag 7)) ao))))
   (am (aD nd (ax da (ax bf (ax bJ (ag 7) av) (ax bH (ax bJ (ag 12) av) av)) (ag 2)))
   (am (aD nd (bd (Xv T) hr (ah (bR jI T.n5 jJ (aG 5 ao)) (ah (bd (JD T) hr (aG 0 (ah (ax bf av (ag 7)) ao))) (ah (bd (JD T) hr (aG 0 (ah (ax bf av (ag 7)) ao))) (aG 1 (aG 13 (aG 6 (aG 2 ao)))))))))
   (am (fm (aK xL (bC 14) (aW (ah aB (ah aB ao)))) (bv (iS (i:=6) (bC 14))) eU)
   (am (fm (aK (cM hu) (bC 14) aB) (bv (iS (i:=6) (bC 14))) eU)
   (bv (iS (i:=5) (aW (ah (ax bf (ag 13) (ax da (by refine aM (hs:=?_) ?_ ?_;refine bE ?_;refine bU ?_;refine bU ?_;refine bU ?_;refine bU ?_;refine bU ?_;refine bU ?_;exact ao;exact(ax bH (ax bJ (ag 12) av) av);intro _ _;rfl) (ag 2))) (aG 14 ao)))))))))))
   (bi (kB Iz T.n12 Ip (aG 5 ao))))))))
theorem head {fa:Addr}(TR:mg "law" = some (.ref fa)):∃fd:FuncData,(∀(s:Shared)(u:Value),BindsTo s fd ⟨[u],[]⟩ [("_law_script",u)])/\∀base:Heap,K.In base->base.Ns mainGlobals mg->sw P w K mg base z7 15 fa fd ["_law_script"] (Ik K F_law):=by
 have S:FnScope ["_law_script","_law_names_here","_law_measure","_law_rows_here","_law_known","_law_days","_law_there","_law_deed_here","_law_before","_law_k","_law_after","_law_fresh","_law_called"] ["_law_script"] (aP (fF 66)):=by refine⟨rfl,rfl,rfl,?_,rfl,?_,?_⟩<;>decide +kernel
 have ⟨h,X,G⟩:=T.hX;exact eA.law T.d56 X G TR S (λ_ _ _ _ _ _ u=>rfl) λbase kb nb f eI A outer s H E hr=>have hu:=CT hr;have nd:=S.nd;(show wO _ _ Lc from
  (am (aD nd (bd (Xu T) hr (ah (bd (JD T) hr (aG 0 (bU ao))) ao)))
   (am (aD nd (aM (bE (bU (bU (bU ao)))) (ax bH (bd (JD T) hr (aG 0 (bU ao))) av)))
   (am (aD nd (bd (Xw T) hr (aG 0 (aG 1 (aG 2 (bU ao))))))
   (am (aD nd (aM (bE (bU (ah (ax da (ax bH (ax bJ (bd (JD T) hr (aG 0 (bU ao))) av) av) (ag 2)) ao))) (ax bJ (ax bH (bd (JD T) hr (aG 0 (bU ao))) av) av)))
   (am (aD nd (bE (bU (bU ao))))
   (am (KS [3] (tP (cr (ag 3)) (u5 rfl (gd (Eg 6 nd) (gd (Eg 7 nd) oW))) KP (bv (fm (aK (EN hu) (bC 7) aB) (bv (aD nd (ax bf (ag 5) (bE (ah (bC 7) (ah (ax bf (bC 7) av) ao)))))) eU))))
   (am (aD nd (y0 rfl T.n11 T.n10 (ag 5)))
   (am (aD nd (bd (Vs T) hr (aG 3 (aG 4 (ah (bC 5) ao)))))
   (am (BE (Dp T.n9 av (bR jI T.n5 jJ (aG 5 ao))) (Eg 9 nd) ge (am (aD nd (bd (Vs T) hr (aG 3 (aG 4 (ah (aM (ag 5) (ag 9)) ao)))))
   (am (lh ["_law_number","_law_days","_law_k","_law_rows_here"] nd (cr (ag 10)) (eS (aK la (aM (aM (aM (ag 3) (ag 0)) av) av) (aM (ag 1) (ax xq (ag 2) av)))) (ag 0))
   (am (cy (gz (cq (bR PY T.n0 PN (ah (ji ["_law_number","_law_before"] (cr (ag 11)) jW (cC xL (ag 0) (ag 1))) ao)))) iG)
   (am (lh ["_law_row","_law_known","_law_days","_law_k"] nd (cr (ag 3)) (eS (kT (iQ (aK la (bC 0) (ag 1)) (iQ (aK (cM hu) (aM (bC 0) av) aB) (gH (EJ Bk la (aM (ag 2) (ax xq (ag 3) av)) (aM (bC 0) av) (aM (ag 2) (ag 3)))))))) (ag 0))
   (am (cy (kT (iQ (aK (cM hu) (ag 12) (bE ao)) (gH (aK (EN hu) (ag 11) (ag 8))))) iG)
   (bv (aD nd (ag 10)))))))))
   (bi iG)))))))))))
end
end Lw
end
namespace PySem.W.Fast
def tw8321464770751704844:=()
def tw16379534718792020475:=()
def tw9275178923282366193:=()
def tw4776363660469655303:=()
def tw12783708015966328140:=()
def tw4283723121645834385:=()
def tw7781725752438512842:=()
def tw7064205974384945334:=()
def tw6343523404912797788:=()
def tw13744404912990536752:=()
def tw4033061255920875415:=()
def tw13824234480875176921:=()
def tw6097496142722855723:=()
def tw7236621436087590192:=()
def tw14954932850096916885:=()
def tw7260270503313362947:=()
def tw11836592101171889742:=()
def tw3844082180698878830:=()
def tw15356345916735034861:=()
def tw4326848855232038259:=()
def tw4110569428882008136:=()
def tw7401101976934147617:=()
def tw7043937431829013770:=()
def tw16894822622791790925:=()
def tw5303656378540143487:=()
def tw15754888692832648710:=()
def tw6875821672701237133:=()
def tw5961071029870887927:=()
def tw11496550640719290000:=()
def tw1352503833331385761:=()
def tw2452727145753267928:=()
def tw1049304493298825440:=()
def tw9726789389166474342:=()
def tw10987476234900427283:=()
def tw2653781543975563742:=()
def tw12525185584585057388:=()
def tw8960374384430490593:=()
def tw426528514868756601:=()
def tw16736408229691784739:=()
def tw14264303094713206618:=()
def tw3294807840472521520:=()
def tw12302248237368039513:=()
def tw18398002909743217188:=()
def tw11583441433355216175:=()
def tw1545906150074366128:=()
def tw4155038343091805936:=()
def tw6398319669334245159:=()
def tw11484462593599245562:=()
def tw9050240449750040224:=()
def tw2235228484487329371:=()
def tw16569873817306424321:=()
def tw6450971278269980022:=()
def tw11435099698519367603:=()
def tw1580188692452828533:=()
def tw9472959455150589524:=()
def tw17003176938231887416:=()
def tw15690169587868750829:=()
def tw5886956631218155963:=()
def tw5835109570490128647:=()
def tw2924109532237007857:=()
def tw17808312560842253408:=()
def tw4771151305513834497:=()
def tw12200571792992376744:=()
def tw7475204184211055018:=()
def tw2343834041403504436:=()
def tw6979471010123816821:=()
def tw17053363113541720836:=()
def tw13802325048602121606:=()
def tw8144381556490695565:=()
def tw10279968266983425488:=()
def tw7240725608455038497:=()
def tw13554368355330486344:=()
def tw3123083099035113948:=()
def tw2895271637668068306:=()
def tw3218152885461298694:=()
def tw16682923332334746966:=()
def tw5756176531503478601:=()
def tw15872122788857203495:=()
def tw9082830846812095457:=()
def tw11301859022411612535:=()
def tw12922442835158657037:=()
def tw15173946523457539048:=()
def tw775289240501281224:=()
def tw18098230459985770564:=()
def tw7514944020558316382:=()
def tw16978656702231698564:=()
def tw17968082556697802904:=()
def tw11112375435378783470:=()
def tw4058014784139980346:=()
def tw12233896185917825345:=()
def tw15925380611962944630:=()
def tw3036222113820693900:=()
def tw3463117333595760893:=()
def tw3885659634685042610:=()
def tw5876296705616902418:=()
def tw3495399567582193555:=()
def tw7635711719321681182:=()
def tw7050520552590919010:=()
def tw1001553303927675102:=()
def tw15513060892575407513:=()
def tw12700869916564683718:=()
def tw8613224727023150295:=()
def tw16687616077267344301:=()
def tw12044042313728977754:=()
def tw8292951120030090424:=()
def tw4134296599340319245:=()
def tw9942761164143301331:=()
def tw1374612825771287627:=()
def tw11155041941055276263:=()
def tw15792635873893160734:=()
def tw16791739602234980846:=()
def tw16909444973971773481:=()
def tw2289127516555256676:=()
def tw11193099314812124595:=()
def tw3473549330129665948:=()
def tw13036113515388563680:=()
def tw17326220724753309543:=()
def tw8301876294303754983:=()
end PySem.W.Fast
open PySem PySem.W PyProof.Rows
set_option maxRecDepth 100000 in
set_option maxHeartbeats 0 in
theorem PySem.Challenge.cw_sealchain_k32_whole_day_by_day_holds : PySem.Challenge.rw_sealchain_k32_whole_day_by_day.Holds := by
 w_on; o_law; k_head; (case hw => w_witness2)
 k_fill
 refine' DL.walkD (l := PySem.Challenge.rw_sealchain_k32_whole_day_by_day) (k := 15) (x := ("_law_script" : PySem.Str)) (f := Lw.F_law) (L := [(("in_order" : PySem.Str), ?t0), (("has_seal" : PySem.Str), ?t1), (("is_first_death" : PySem.Str), ?t2), (("bases_by" : PySem.Str), ?t3)]) rfl rfl ⟨rfl, by decide, by decide⟩ (fun w h Y => PySem.W.km_in_of Y) ?T ?D ?F Lw.law_true
 case T =>
  intro w
  refine' DL.tabs_fit ?h0 ?h1 ?h2 ?h3 ?ap ?nt
  (case h0 => refine' DL.tab_yes ?a ?l ?c ?m ?v; (case a => k_is); (case l => k_is); (case c => exact rfl); (case m => k_is); (case v => exact rfl))
  (case h1 => refine' DL.tab_yes ?a ?l ?c ?m ?v; (case a => k_is); (case l => k_is); (case c => exact rfl); (case m => k_is); (case v => exact rfl))
  (case h2 => refine' DL.tab_yes ?a ?l ?c ?m ?v; (case a => k_is); (case l => k_is); (case c => exact rfl); (case m => k_is); (case v => exact rfl))
  (case h3 => refine' DL.tab_yes ?a ?l ?c ?m ?v; (case a => k_is); (case l => k_is); (case c => exact rfl); (case m => k_is); (case v => exact rfl))
  (case ap => decide)
  (case nt => kernel_rfl)
 case D => kernel_rfl
 case F =>
  intro w mg fa h KX G hmg
  refine' Lw.head ⟨⟨h, KX, G⟩, ?d0, ?d1, ?d2, ?d3, ?d4, ?d5, ?d6, ?d7, ?d8, ?d9, ?d10, ?d11, ?d12, ?d13, ?d14, ?d15, ?d16, ?d17, ?d18, ?d19, ?d20, ?d21, ?d22, ?d23, ?d24, ?d25, ?d26, ?d27, ?d28, ?d29, ?d30, ?d31, ?d32, ?d33, ?d34, ?d35, ?d36, ?d37, ?d38, ?d39, ?d40, ?d41, ?d42, ?d43, ?d44, ?d45, ?d46, ?d47, ?d48, ?d49, ?d50, ?d51, ?d52, ?d53, ?d54, ?d55, ?d56, PySem.W.mg_none_of KX G ?z0, PySem.W.mg_none_of KX G ?z1, PySem.W.mg_none_of KX G ?z2, PySem.W.mg_none_of KX G ?z3, PySem.W.mg_none_of KX G ?z4, PySem.W.mg_none_of KX G ?z5, PySem.W.mg_none_of KX G ?z6, PySem.W.mg_none_of KX G ?z7, PySem.W.mg_none_of KX G ?z8, PySem.W.mg_none_of KX G ?z9, PySem.W.mg_none_of KX G ?z10, PySem.W.mg_none_of KX G ?z11, PySem.W.mg_none_of KX G ?z12, DL.kc_of KX G ?k0, DL.kd_of KX G ?k1, DL.kc_of KX G ?k2, ?q0, ?q1, ?q2, ?q3⟩ hmg
  iterate 57 (refine' DL.def_mk ?a ?l ?c ?k; (case a => k_is); (case l => k_is); (case c => k_is); (case k => k_is))
  (case z0 => k_is)
  (case z1 => k_is)
  (case z2 => k_is)
  (case z3 => k_is)
  (case z4 => k_is)
  (case z5 => k_is)
  (case z6 => k_is)
  (case z7 => k_is)
  (case z8 => k_is)
  (case z9 => k_is)
  (case z10 => k_is)
  (case z11 => k_is)
  (case z12 => k_is)
  (case k0 => refine' DL.const_tup ?e ?l ?v; (case e => k_is); (case l => k_is); (case v => decide +kernel))
  (case k1 => refine' DL.const_dict ?e ?l ?r ?s; (case e => k_is); (case l => k_is); (case r => refine' (DL.CRows.tup rfl ?l0 ?f0 (DL.CRows.tup rfl ?l1 ?f1 (DL.CRows.tup rfl ?l2 ?f2 (DL.CRows.tup rfl ?l3 ?f3 (DL.CRows.tup rfl ?l4 ?f4 (DL.CRows.tup rfl ?l5 ?f5 (DL.CRows.tup rfl ?l6 ?f6 (DL.CRows.tup rfl ?l7 ?f7 (DL.CRows.tup rfl ?l8 ?f8 (DL.CRows.tup rfl ?l9 ?f9 (DL.CRows.tup rfl ?l10 ?f10 (DL.CRows.tup rfl ?l11 ?f11 DL.CRows.nil)))))))))))); (case l0 => k_is); (case f0 => decide +kernel); (case l1 => k_is); (case f1 => decide +kernel); (case l2 => k_is); (case f2 => decide +kernel); (case l3 => k_is); (case f3 => decide +kernel); (case l4 => k_is); (case f4 => decide +kernel); (case l5 => k_is); (case f5 => decide +kernel); (case l6 => k_is); (case f6 => decide +kernel); (case l7 => k_is); (case f7 => decide +kernel); (case l8 => k_is); (case f8 => decide +kernel); (case l9 => k_is); (case f9 => decide +kernel); (case l10 => k_is); (case f10 => decide +kernel); (case l11 => k_is); (case f11 => decide +kernel)); (case s => decide +kernel))
  (case k2 => refine' DL.const_tup ?e ?l ?v; (case e => k_is); (case l => k_is); (case v => decide +kernel))
  (case q0 => refine' DL.lam_mk ?a ?l ?c ?m ?v1 ?v2 ?v3 ?v4 ?v5 ?v6 ?v7; (case a => k_is); (case l => k_is); (case c => exact rfl); (case m => k_is); (case v1 => exact rfl); (case v2 => exact rfl); (case v3 => exact rfl); (case v4 => exact rfl); (case v5 => exact rfl); (case v6 => exact rfl); (case v7 => decide))
  (case q1 => refine' DL.lam_mk ?a ?l ?c ?m ?v1 ?v2 ?v3 ?v4 ?v5 ?v6 ?v7; (case a => k_is); (case l => k_is); (case c => exact rfl); (case m => k_is); (case v1 => exact rfl); (case v2 => exact rfl); (case v3 => exact rfl); (case v4 => exact rfl); (case v5 => exact rfl); (case v6 => exact rfl); (case v7 => decide))
  (case q2 => refine' DL.lam_mk ?a ?l ?c ?m ?v1 ?v2 ?v3 ?v4 ?v5 ?v6 ?v7; (case a => k_is); (case l => k_is); (case c => exact rfl); (case m => k_is); (case v1 => exact rfl); (case v2 => exact rfl); (case v3 => exact rfl); (case v4 => exact rfl); (case v5 => exact rfl); (case v6 => exact rfl); (case v7 => decide))
  (case q3 => refine' DL.lam_mk ?a ?l ?c ?m ?v1 ?v2 ?v3 ?v4 ?v5 ?v6 ?v7; (case a => k_is); (case l => k_is); (case c => exact rfl); (case m => k_is); (case v1 => exact rfl); (case v2 => exact rfl); (case v3 => exact rfl); (case v4 => exact rfl); (case v5 => exact rfl); (case v6 => exact rfl); (case v7 => decide))

