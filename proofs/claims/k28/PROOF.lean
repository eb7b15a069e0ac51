import PyProof.Rows.All
import Wide.All
import OpenK.AllK
import Wide.FinOn
import Lean
import PyProof.EqAt
import PyProof.EqKinds
import PyProof.TupleCall
import PyProof.AttrMissHeap
import PySem.Challenge.RW_sealchain_k28_what_stands
set_option Elab.async false
set_option linter.all false
set_option maxRecDepth 100000
set_option bootstrap.genMatcherCode false
set_option compiler.extract_closed false
set_option maxHeartbeats 40000000
theorem mY {α:Type _}{a:α}(l:List α){k:List α}(h:a∈k):a∈l++k:=List.mem_append_right l h
theorem mZ {α:Type _}(b:α){a:α}{l:List α}(h:a∈l):a∈b::l:=List.mem_cons_of_mem b h
theorem mX {α:Type _}{a:α}{l:List α}:a∈a::l:=List.mem_cons_self
theorem oX {α β:Type _}{o:Option α}{f:α->Option β}{b:β}(h:o.bind f=some b):∃a,o=some a/\f a=some b:=Option.bind_eq_some_iff.mp h
theorem oY {α β:Type _}{f:α->β}{o:Option α}{b:β}(h:o.map f=some b):∃a,o=some a/\f a=b:=Option.map_eq_some_iff.mp h
def wX:=@PySem.wpAny_bind
def wY:=@PySem.wpAny_pure
def vZ:=@PySem.Heap.get?_push_of_some
def vY:=@PySem.Heap.get?_push_size
def vX:=@PySem.Heap.lt_size
def vW:=@PySem.Heap.SameBut.update
theorem vV {α:Type _}{l:List α}{i:Nat}{a:α}(h:l[i]? = some a):∃h:i<l.length,l[i]=a:=List.getElem?_eq_some_iff.mp h
theorem vU {α:Type _}{l:List α}{i:Nat}(h:i<l.length):l[i]? = some l[i]:=List.getElem?_eq_getElem h
theorem vT (n:Nat):n<=n:=Nat.le_refl n
theorem vS {a b:Nat}(h:a<b):a≠b:=Nat.ne_of_lt h
theorem vR {n m k:Nat}:n<=m->m<=k->n<=k:=Nat.le_trans
theorem vQ {n m k:Nat}:n<m->m<=k->n<k:=Nat.lt_of_lt_of_le
theorem vP {α:Type _}{a b:α}{l:List α}(h:b∈a::l):b=a∨b∈l:=List.mem_cons.mp h
theorem vO {α β:Type _}{b:β}{f:α->β}{l:List α}(h:b∈l.map f):∃a,a∈l/\f a=b:=List.mem_map.mp h
theorem vN {α:Type _}{a:α}{p:α->Bool}{l:List α}(h:a∈l.filter p):a∈l/\p a=true:=List.mem_filter.mp h
theorem vM {α:Type _}(p:α->Bool)(l:List α):(l.filter p).length<=l.length:=List.length_filter_le p l
theorem vL {α:Type _}{l:List α}{i:Nat}{a:α}(h:l[i]? = some a):a∈l:=List.mem_of_getElem? h
theorem vK {α:Type _}{a b:α}(h:some a=some b):a=b:=Option.some.inj h
theorem vJ {α β:Type _}(a:α)(f:α->Option β):(some a).bind f=f a:=rfl
theorem vI {α β:Type _}{as:List α}(f:α->β):(as.map f).length=as.length:=List.length_map f
theorem vH {α:Type _}{l:List α}:l.toArray.size=l.length:=rfl
theorem vG {α:Type _}{xs:Array α}:xs.toList.length=xs.size:=rfl
theorem vF {α:Type _}{l:List α}{i:Nat}{a:α}:l.getD i a=l[i]?.getD a:=List.getD_eq_getElem?_getD
theorem vE {α:Type _}{a:α}{as:List α}:(a::as).length=as.length+1:=rfl
theorem vC (a b:Bool):((a && b)=true)=(a=true/\b=true):=Bool.and_eq_true a b
theorem vB {α:Type _}{i j:Nat}{a:α}{l:List α}(h:i≠j):(l.set i a)[j]? = l[j]?:=List.getElem?_set_ne h
theorem vA {α β:Type _}{f:α->β}{l:List α}{i:Nat}:(l.map f)[i]? = Option.map f l[i]?:=List.getElem?_map
theorem uZ {α:Type _}{as bs:List α}:(as++bs).length=as.length+bs.length:=List.length_append
theorem uY {α β:Type _}{f:α->β}{a:α}{l:List α}:(a::l).map f=f a::l.map f:=rfl
theorem uX:false≠true:=Bool.false_ne_true
theorem uW {α β:Type _}{f:α->β}{l l':List α}:(l++l').map f=l.map f++l'.map f:=List.map_append
theorem uV:(false=true)=False:=Bool.false_eq_true
theorem uU {α:Type _}{x:Option α}(h:x.isSome=true):∃a,x=some a:=Option.isSome_iff_exists.mp h
theorem uT {α:Type _}{a b:α}(h:a∈[b]):a=b:=List.mem_singleton.mp h
theorem uS {α β:Type _}{b:β}{f:α->β}{l:List α}(h:∃a,a∈l/\f a=b):b∈l.map f:=List.mem_map.mpr h
theorem uR {α:Type _}{l:List α}{p:α->Bool}(h:l.all p=true):∀x∈l,p x=true:=List.all_eq_true.mp h
theorem uQ {α:Type _}(as:List α):as++[]=as:=List.append_nil as
theorem uP {α β γ:Type _}{g:β->γ}{f:α->β}{l:List α}:(l.map f).map g=l.map (g ∘ f):=List.map_map
theorem uO {α β:Type _}{x:α}{xs:List α}{f:α->List β}:(x::xs).flatMap f=f x++xs.flatMap f:=List.flatMap_cons
theorem uN (n:Nat):0<=n:=Nat.zero_le n
noncomputable section
namespace L2
open PySem PySem.Spec PyProof.Rows
abbrev c8:=Sum Int Str
noncomputable def sy:c8->Value->Bool
 |.inl k,v=>Value.isInt k v
 |.inr x,v=>Value.isStrOf x v
noncomputable def Sd (w:World):c8->Int
 |.inl k=>hashInt k
 |.inr x=>hashStr w x
theorem cJ:∀ {k:c8}{v:Value},sy k v=true->(∃i t,k=Sum.inl i/\v=Value.int i t)∨(∃x t,k=Sum.inr x/\v=Value.str x t)
 |.inl i,v,h=>by
  obtain⟨t,e⟩:=Value.isInt_shape (k:=i) (v:=v) h;exact .inl ⟨i,t,rfl,e⟩
 |.inr x,v,h=>by
  obtain⟨t,e⟩:=Value.isStrOf_shape (x:=x) (v:=v) h;exact .inr ⟨x,t,rfl,e⟩
theorem Cv (i:Int)(t:Tok):sy (.inl i) (.int i t)=true:=by simp[sy,Value.isInt]
theorem Cw (x:Str)(t:Tok):sy (.inr x) (.str x t)=true:=by simp[sy,Value.isStrOf]
theorem Lo (a b:Int):decide ((Sum.inl a:c8)=Sum.inl b)=(a == b):=by
 by_cases e:a=b
 ·subst e;simp
 ·have h:¬(Sum.inl a:c8)=Sum.inl b:=λq=>e (Sum.inl.inj q);rw[decide_eq_false h];exact(beq_eq_false_iff_ne.mpr e).symm
theorem Lp (a b:Str):decide ((Sum.inr a:c8)=Sum.inr b)=decide (a=b):=by
 by_cases e:a=b
 ·subst e;simp
 ·have h:¬(Sum.inr a:c8)=Sum.inr b:=λq=>e (Sum.inr.inj q);rw[decide_eq_false h,decide_eq_false e]
theorem Lq (a:Int)(b:Str):decide ((Sum.inl a:c8)=Sum.inr b)=false:=decide_eq_false (λq=>nomatch q)
theorem Lr (a:Str)(b:Int):decide ((Sum.inr a:c8)=Sum.inl b)=false:=decide_eq_false (λq=>nomatch q)
def cm (prog:Program)(w:World):PySem.KeyKind prog w c8 where
 is:=sy
 hash:=Sd w
 inj:=λv a b ha hb=>by
  rcases cJ ha with⟨i,t,rfl,rfl⟩|⟨x,t,rfl,rfl⟩
  ·rcases cJ hb with⟨j,u,rfl,e⟩|⟨y,u,rfl,e⟩
   ·injection e with e1 _;rw[e1]
   ·exact nomatch e
  ·rcases cJ hb with⟨j,u,rfl,e⟩|⟨y,u,rfl,e⟩
   ·exact nomatch e
   ·injection e with e1 _;rw[e1]
 byValue:=λk v h=>by
  rcases cJ h with⟨i,t,rfl,rfl⟩|⟨x,t,rfl,rfl⟩<;>rfl
 pyHash:=λhv h=>by
  rcases cJ hv with⟨i,t,rfl,rfl⟩|⟨x,t,rfl,rfl⟩
  ·exact wpAny_pyHash_int h
  ·exact wpAny_pyHash_str h
 eqBool:=λhu hv h=>by
  rcases cJ hu with⟨i,t,rfl,rfl⟩|⟨x,t,rfl,rfl⟩
  ·rcases cJ hv with⟨j,u,rfl,rfl⟩|⟨y,u,rfl,rfl⟩
   ·rw[Lo]at h;exact wpAny_eqBool_int h
   ·rw[Lq]at h;exact SeqAt.EqAt.int_str i t y u _ _ _ _ h
  ·rcases cJ hv with⟨j,u,rfl,rfl⟩|⟨y,u,rfl,rfl⟩
   ·rw[Lr]at h;exact SeqAt.EqAt.str_int x t j u _ _ _ _ h
   ·rw[Lp]at h;exact wpAny_eqBool_str h
 «strs»:=λk x t v h=>by
  rcases cJ h with⟨i,u,rfl,e⟩|⟨y,u,rfl,e⟩
  ·exact nomatch e
  ·injection e with e1 _;subst e1;cases v<;>rfl
theorem wO (prog:Program)(w:World)(i:Int)(t:Tok):(cm prog w).is (.inl i) (.int i t)=true:=Cv i t
theorem wP (prog:Program)(w:World)(x:Str)(t:Tok):(cm prog w).is (.inr x) (.str x t)=true:=Cw x t
inductive V where
 |non|bl (b:Bool)|int (i:Int)|str (x:Str)|byt (b:Array UInt8)|flt (b:UInt64)|ref (a:Addr)|ty (n:String)
 deriving DecidableEq
def ba:V->Value->Prop
 |.non,u=>u=Value.none
 |.bl b,u=>u=Value.bool b
 |.int i,u=>∃t,u=Value.int i t
 |.str x,u=>∃t,u=Value.str x t
 |.byt b,u=>∃t,u=Value.bytes b t
 |.flt b,u=>∃t,u=Value.float b t
 |.ref a,u=>u=Value.ref a
 |.ty n,u=>u=Value.type n
abbrev aW:List V->List Value->Prop:=Paired ba
theorem aW.length (r:aW xs us):xs.length=us.length:=Paired.length r
theorem aW.get:∀ {xs:List V}{us:List Value}{i:Nat}{x:V},aW xs us->xs[i]? = some x->∃u,us[i]? = some u/\ba x u
 |_,_,_,_,.nil,e=>by simp at e
 |_,_,0,_,.cons r _,e=>by simp at e;subst e;exact⟨_,rfl,r⟩
 |_,_,i+1,x,.cons _ t,e=>by
  obtain⟨u,h1,h2⟩:=aW.get (i:=i) (x:=x) t (by simpa using e);exact⟨u,by simpa using h1,h2⟩
theorem aW.set (r:ba x u):∀ {xs:List V}{us:List Value}(i:Nat),aW xs us->aW (xs.set i x) (us.set i u)
 |_,_,_,.nil=>.nil
 |_,_,0,.cons _ t=>.cons r t
 |_,_,i+1,.cons q t=>.cons q (aW.set r i t)
theorem aW.append:∀ {xs ys:List V}{us ws:List Value},aW xs us->aW ys ws->aW (xs++ys) (us++ws)
 |_,_,_,_,.nil,s=>s
 |_,_,_,_,.cons r t,s=>.cons r (aW.append t s)
theorem aW.take:∀ {xs:List V}{us:List Value}(n:Nat),aW xs us->aW (xs.take n) (us.take n)
 |_,_,0,_=>.nil
 |_,_,_+1,.nil=>.nil
 |_,_,n+1,.cons r t=>.cons r (aW.take n t)
theorem aW.drop:∀ {xs:List V}{us:List Value}(n:Nat),aW xs us->aW (xs.drop n) (us.drop n)
 |_,_,0,r=>r
 |_,_,_+1,.nil=>.nil
 |_,_,n+1,.cons _ t=>aW.drop n t
theorem aW.none_of:∀ {xs:List V}{us:List Value}{i:Nat},aW xs us->xs[i]? = none->us[i]? = none:=λ{xs us i} r e=>by
 have h1:=r.length;have h2:xs.length<=i:=List.getElem?_eq_none_iff.mp e;exact List.getElem?_eq_none_iff.mpr (by omega)
def oP:Option V->Option Value->Prop
 |some v,some u=>ba v u
 |none,none=>True
 |_,_=>False
def KV {κ:Type}:List (κ×V)->List (κ×Value)->Prop:=Paired λ(p:κ×V) (q:κ×Value)=>p.1=q.1/\ba p.2 q.2
noncomputable def kV:c8->V
 |.inl i=>.int i
 |.inr x=>.str x
inductive HO where
  |lst (xs:List V)
  |tup (xs:List V)
  |dK (aL:List (c8×V)) (ob:Obj)|dT (aL:List (List c8×V))
  |set (S:Int->Bool) (n:Nat)
  |ins (C dx:Addr) (fs:List (Str×V))
  |own (x:Addr)
  |xd (fs:List (Str×V))
  |met (f x:Addr)
  |rng (lo hi:Int)
  |frz (o:Obj) (u:HO)
  |tbl (q:Str)
  |ext (φ:Heap->Prop)
abbrev Hp:=Addr->Option HO
noncomputable def upd (H:Hp)(a:Addr)(o:HO):Hp:=λb=>if b=a then some o else H b
theorem aE:upd H a o a=some o:=by unfold upd;rw[if_pos rfl]
theorem aI (h:b≠a):upd H a o b=H b:=by unfold upd;rw[if_neg h]
theorem Hn:upd (upd H a o) a u=upd H a u:=by
 funext b;unfold upd;split<;>rfl
theorem O7 {H:Hp}{a b:Addr}{o u:HO}(h:H a=some o)(h':H b=some u)(d:o≠u):a≠b:=by
 intro e;subst e;rw[h]at h';exact d (vK h')
theorem aX {H:Hp}{a b:Addr}{o:HO}(h:H a=some o)(h':H b=none):a≠b:=by
 intro e;subst e;rw[h]at h';cases h'
section
variable (P:Program) (w:World)
def bO (H:Hp)(h:Heap)(a:Addr):HO->Prop
 |.lst xs=>xs.length<=sizeLine/\∃(its:List Value)(n:Nat),aW xs its/\h.get? a=some { cls:=.type "list",data:=.seq its.toArray n }
 |.tup xs=>xs.length<=sizeLine/\∃its:List Value,aW xs its/\IsTup h a its.toArray
 |.dK aL ob=>h.get? a=some ob/\aL.length<=sizeLine/\(a == sysModules)=false/\∃vs,KV aL vs/\h.DictOf (cm P w) a vs
 |.dT aL=>aL.length<=sizeLine/\(a == sysModules)=false/\∃xs:List (List c8×Addr×Value),
   Paired (λ(p:List c8×V) (q:List c8×Addr×Value)=>p.1=q.1/\H q.2.1=some (.tup (p.1.map kV))/\ba p.2 q.2.2) aL xs /\
   ∃o es ep,h.get? a=some o/\o.ExactDict/\o.data=.dict es ep/\es.toList=xs.map (entryOfKey (tupleKind (cm P w)))/\(xs.map (·.1)).Nodup
 |.set S n=>h.SetOf (intKind P w) a S n
 |.ins C dx fs=>H dx=some (.own a)/\fs.length<=1000/\dx≠a/\h.get? a=some (PySem.W.instObj C dx) /\
   ∃mA,h.Ns1 dx mA/\(∀f,oP (fs.lookup f) (mA f))/\PySem.Within mA (fs.map (·.1))
 |.own _=>∃o,h.get? a=some o
 |.xd fs=>∃mA,h.Ns1 a mA/\∀f,oP (fs.lookup f) (mA f)
 |.rng lo hi=>∃t u v,h.get? a=some { cls:=.type "range",data:=.fields #[.int lo t,.int hi u,.int 1 v] }
 |.frz o u=>h.get? a=some o/\bO H h a u
 |.tbl q=>∃ps:Array Value,h.get? a=some { cls:=.none,data:=.fields ps }/\TriplesOk ps.toList/\∀pos cv,codeAmong pos ps.toList=some cv->∃(c:Addr)(oc:Obj)(u:HO)(vs:Array Value)(t:Tok),cv=.ref c/\H c=some (.frz oc u)/\oc.data=.fields vs/\vs[1]? = some (.str q t)
 |.met f x=>h.get? a=some (PySem.W.methodObj (.ref f) (.ref x))
 |.ext φ=>φ h/\(∃o,h.get? a=some o)/\∀h1 h2:Heap,φ h1->(∀o,h1.get? a=some o->h2.get? a=some o)->φ h2
def lb (H:Hp)(h:Heap):Prop:=∀a o,H a=some o->bO P w H h a o
end
section
variable {P:Program}{w:World}{H H':Hp}{h h':Heap}{a:Addr}{o:HO}
theorem bO.lt (x:bO P w H h a o):a<h.objs.size:=by
 cases o with
 |lst xs=>obtain⟨_,_,_,_,e⟩:=x;exact vX e
 |tup xs=>obtain⟨_,_,_,p⟩:=x;exact p.lt
 |dK aL ob=>exact vX (And.left x)
 |dT aL=>obtain⟨_,_,_,_,o,_,_,e,_⟩:=x;exact vX e
 |set S n=>obtain⟨o,_,_,_,e,_⟩:=x;exact vX e
 |ins C dx fs=>obtain⟨_,_,_,e,_⟩:=x;exact vX e
 |own y=>obtain⟨_,e⟩:=x;exact vX e
 |xd fs=>obtain⟨_,⟨_,_,_,e,_⟩,_⟩:=x;exact vX e
 |rng lo hi=>obtain⟨_,_,_,e⟩:=x;exact vX e
 |frz ob u=>obtain⟨e,_⟩:=x;exact vX e
 |tbl q=>obtain⟨_,e,_⟩:=x;exact vX e
 |met f y=>exact vX (show h.get? a=some _ from x)
 |ext φ=>obtain⟨_,⟨_,e⟩,_⟩:=x;exact vX e
theorem Paired.mapP {α β:Type}{F G:α->β->Prop}:∀ {l₁:List α}{l₂:List β},Paired F l₁ l₂->(∀a b,F a b->G a b)->Paired G l₁ l₂
 |_,_,.nil,_=>.nil
 |_,_,.cons r t,f=>.cons (f _ _ r) (Paired.mapP t f)
theorem bO.stay (x:bO P w H h a o)(k:∀b u,(b=a∨H b=some (.own a))->h.get? b=some u->h'.get? b=some u)
  (ho:∀b,H b=some (.own a)->H' b=some (.own a)) (ht:∀b xs,H b=some (.tup xs)->H' b=some (.tup xs)) (hf:∀b o u,H b=some (.frz o u)->H' b=some (.frz o u)):bO P w H' h' a o:=by
 induction o with
 |lst xs=>obtain⟨z,its,n,r,e⟩:=x;exact⟨z,its,n,r,k _ _ (.inl rfl) e⟩
 |tup xs=>obtain⟨z,its,r,ob,e,c⟩:=x;exact⟨z,its,r,ob,k _ _ (.inl rfl) e,c⟩
 |dK aL Vh=>obtain⟨g,z,y,vs,r,ob,es,ep,e,c⟩:=x;exact⟨k _ _ (.inl rfl) g,z,y,vs,r,ob,es,ep,k _ _ (.inl rfl) e,c⟩
 |dT aL=>
  obtain⟨z,y,xs,r,ob,es,ep,e,c⟩:=x;exact⟨z,y,xs,Paired.mapP r λp q z=>⟨z.1,ht _ _ z.2.1,z.2.2⟩,ob,es,ep,k _ _ (.inl rfl) e,c⟩
 |set S n=>obtain⟨ob,es,ep,t,e,c⟩:=x;exact⟨ob,es,ep,t,k _ _ (.inl rfl) e,c⟩
 |ins C dx fs=>
  obtain⟨d,z,ne,e,mA,⟨od,es,ep,e2,c⟩,r⟩:=x;exact⟨ho _ d,z,ne,k _ _ (.inl rfl) e,mA,⟨od,es,ep,k _ _ (.inr d) e2,c⟩,r⟩
 |own y=>obtain⟨ob,e⟩:=x;exact⟨ob,k _ _ (.inl rfl) e⟩
 |xd fs=>obtain⟨mA,⟨od,es,ep,e,c⟩,r⟩:=x;exact⟨mA,⟨od,es,ep,k _ _ (.inl rfl) e,c⟩,r⟩
 |rng lo hi=>obtain⟨t,u,v,e⟩:=x;exact⟨t,u,v,k _ _ (.inl rfl) e⟩
 |frz ob u ih=>obtain⟨e,q⟩:=x;exact⟨k _ _ (.inl rfl) e,ih q⟩
 |tbl q=>obtain⟨ps,e,t,c⟩:=x;exact⟨ps,k a _ (.inl rfl) e,t,λpos cv z=>let ⟨d,oc,u,vs,tk,z1,z2,z3⟩:=c pos cv z;⟨d,oc,u,vs,tk,z1,hf _ _ _ z2,z3⟩⟩
 |met f y=>
  have e:h.get? a=some (PySem.W.methodObj (.ref f) (.ref y)):=x;show h'.get? a=some (PySem.W.methodObj (.ref f) (.ref y));exact k a _ (.inl rfl) e
 |ext φ=>obtain⟨p,⟨o,e⟩,st⟩:=x;exact⟨st _ _ p λo q=>k _ _ (.inl rfl) q,⟨o,k _ _ (.inl rfl) e⟩,st⟩
theorem lb.lt (x:lb P w H h)(e:H a=some o):a<h.objs.size:=(x a o e).lt
theorem lb.fresh (x:lb P w H h)(e:h.objs.size<=a):H a=none:=by
 cases q:H a with
 |none=>rfl
 |some u=>exact absurd (vQ (x.lt q) e) (Nat.lt_irrefl _)
theorem lb.kept (x:lb P w H h)(k:∀b u,h.get? b=some u->h'.get? b=some u):lb P w H h':=λa o e=>
 (x a o e).stay (λb u _ q=>k b u q) (λ_ q=>q) (λ_ _ q=>q) λ_ _ _ q=>q
theorem lb.laid (x:lb P w H h)(k:∀b u,h.get? b=some u->h'.get? b=some u)(hp:h.objs.size<=a)(new:bO P w (upd H a o) h' a o):lb P w (upd H a o) h':=λb u e=>by
 have hn:=x.fresh hp;by_cases hb:b=a
 ·subst hb;rw[aE]at e;cases e;exact new
 ·rw[aI hb]at e;exact(x b u e).stay (λc v _ q=>k c v q) (λc q=>by rw[aI (aX q hn)];exact q) (λc xs q=>by rw[aI (aX q hn)];exact q) λc o xs q=>by rw[aI (aX q hn)];exact q
end
def Rd (H:Hp)(a:Addr)(u:HO):Prop:=H a=some u∨∃o,H a=some (.frz o u)
theorem Rd.of (h:H a=some u):Rd H a u:=.inl h
theorem Rd.ok (r:Rd H a u)(x:lb P w H h):bO P w H h a u:=by
 rcases r with r|⟨o,r⟩
 ·exact x a u r
 ·obtain⟨_,q⟩:=x a _ r;exact q
def O8:Option HO->Prop
 |some (.lst _)=>True
 |some (.dK _ _)=>True
 |some (.dT _)=>True
 |some (.set _ _)=>True
 |some (.ins _ _ _)=>True
 |some (.ext _)=>True
 |_=>False
section
variable {P:Program}{w:World}{H:Hp}{h h':Heap}{x e:Addr}{o':HO}
theorem lb.write (ok:lb P w H h)(mu:O8 (H x))(he:e=x∨H e=some (.own x))(k:∀b u,b≠e->h.get? b=some u->h'.get? b=some u)(Of:∃u,h'.get? e=some u)
  (new:bO P w (upd H x o') h' x o'):lb P w (upd H x o') h':=λb u q=>by
 have Qf:∀c y,H c=some (.own y)->c≠x:=λc y r z=>by subst z;rw[r]at mu;exact mu
 have Tc:∀c xs,H c=some (.tup xs)->c≠x:=λc xs r z=>by subst z;rw[r]at mu;exact mu
 by_cases hb:b=x
 ·subst hb;rw[aE]at q;cases q;exact new
 ·rw[aI hb]at q;by_cases hbe:b=e
  ·have q':H b=some (.own x):=by
    rcases he with z|z
    ·exact absurd (hbe.trans z) hb
    ·rw[hbe];exact z
   rw[q]at q';cases q';obtain⟨v,hv⟩:=Of;exact⟨v,by rw[hbe];exact hv⟩
  ·refine(ok b u q).stay (λc v hc r=>k c v ?_ r) (λc r=>by rw[aI (Qf c b r)];exact r) (λc xs r=>by rw[aI (Tc c xs r)];exact r) λc o xs r=>by rw[aI (λz=>by subst z;rw[r]at mu;exact mu)];exact r
   rcases hc with rfl|hc
   ·exact hbe
   ·rintro rfl;rcases he with z|z
    ·exact Qf c b hc z
    ·rw[hc]at z;cases z;exact hb rfl
end
structure Un (fs ex:List Addr)(H H':Hp)(h h':Heap):Prop where
 keep:∀b o,h.get? b=some o->H b=none->b∉fs->b∉ex->h'.get? b=some o
 slot:∀b o,h.get? b=some o->H b=none->b∈fs->b∉ex->∃sl,h'.get? b=some { o with slots:=sl }
 free:∀b o,h.get? b=some o->H b=none->b∉ex->H' b=none
 there:∀b o,h.get? b=some o->b∉ex->∃o',h'.get? b=some o'
 tups:∀b xs,H b=some (.tup xs)->H' b=some (.tup xs)
 frzs:∀b o u,H b=some (.frz o u)->H' b=some (.frz o u)
 tbls:∀b q,H b=some (.tbl q)->H' b=some (.tbl q)
section
variable {fs Xh ex Zl:List Addr}{H H1 H2:Hp}{h h1 h2 h':Heap}{a x e:Addr}{o:HO}
theorem Un.any (u:Un fs ex H H1 h h1)(q:h.get? b=some ob)(n:H b=none)(hx:b∉ex):∃sl,h1.get? b=some { ob with slots:=sl }:=by
 by_cases hb:b∈fs
 ·exact u.slot b ob q n hb hx
 ·exact⟨ob.slots,u.keep b ob q n hb hx⟩
theorem Un.trans (a:Un fs ex H H1 h h1)(b:Un fs ex H1 H2 h1 h2):Un fs ex H H2 h h2 where
 keep:=λc ob q n hc hx=>b.keep c ob (a.keep c ob q n hc hx) (a.free c ob q n hx) hc hx
 slot:=λc ob q n hc hx=>by
  obtain⟨sl,e1⟩:=a.slot c ob q n hc hx;obtain⟨Td,e2⟩:=b.slot c _ e1 (a.free c ob q n hx) hc hx;exact⟨Td,e2⟩
 free:=λc ob q n hx=>by
  obtain⟨o',e1⟩:=a.there c ob q hx;exact b.free c o' e1 (a.free c ob q n hx) hx
 there:=λc ob q hx=>by
  obtain⟨o',e1⟩:=a.there c ob q hx;exact b.there c o' e1 hx
 tups:=λc xs q=>b.tups c xs (a.tups c xs q)
 frzs:=λc ob xs q=>b.frzs c ob xs (a.frzs c ob xs q)
 tbls:=λc ps q=>b.tbls c ps (a.tbls c ps q)
theorem Un.kept (k:∀b u,h.get? b=some u->h'.get? b=some u):Un fs ex H H h h' :=
 ⟨λb ob q _ _ _=>k b ob q,λb ob q _ _ _=>⟨ob.slots,k b ob q⟩,λ_ _ _ n _=>n,λb ob q _=>⟨ob,k b ob q⟩,λ_ _ q=>q,λ_ _ _ q=>q,λ_ _ q=>q⟩
theorem Un.refl:Un fs ex H H h h:=Un.kept λ_ _ q=>q
theorem Un.laid (k:∀b u,h.get? b=some u->h'.get? b=some u)(hp:h.objs.size<=a)(hn:H a=none):Un fs ex H (upd H a o) h h' where
 keep:=λb u q _ _ _=>k b u q
 slot:=λb u q _ _ _=>⟨u.slots,k b u q⟩
 free:=λb u q n _=>by rw[aI (vS (vQ (vX q) hp))];exact n
 there:=λb u q _=>⟨u,k b u q⟩
 tups:=λb xs q=>by rw[aI (aX q hn)];exact q
 frzs:=λb u xs q=>by rw[aI (aX q hn)];exact q
 tbls:=λb ps q=>by rw[aI (aX q hn)];exact q
theorem Un.write (mu:O8 (H x))(he:e=x∨H e=some (.own x))(k:∀b u,b≠e->h.get? b=some u->h'.get? b=some u)(Of:∃u,h'.get? e=some u):Un fs ex H (upd H x o) h h':=by
 have hx:∀b,H b=none->b≠x:=λb n z=>by subst z;rw[n]at mu;exact mu
 have hb:∀b,H b=none->b≠e:=λb n z=>by
  subst z;rcases he with r|r
  ·exact hx b n r
  ·rw[n]at r;cases r
 have hm:∀b u,H b=some u->¬O8 (some u)->b≠x:=λb u q nm z=>by subst z;rw[q]at mu;exact nm mu
 refine⟨λb u q n _ _=>k b u (hb b n) q,λb u q n _ _=>⟨u.slots,k b u (hb b n) q⟩,λb u q n _=>by rw[aI (hx b n)];exact n,λb u q _=>?_,
  λb xs q=>by rw[aI (hm b _ q λz=>z)];exact q,λb u xs q=>by rw[aI (hm b _ q λz=>z)];exact q,λb ps q=>by rw[aI (hm b _ q λz=>z)];exact q⟩
 by_cases hbe:b=e
 ·subst hbe;exact Of
 ·exact⟨u,k b u hbe q⟩
end
noncomputable def Rn (h:Heap)(H:Hp):List Addr:=(List.range h.objs.size).filter λa=>(H a).isSome
def wQ (h:Heap)(H:Hp):Heap:=PySem.W.hideAll h (Rn h H)
theorem Cy (h:Heap)(H:Hp):(wQ h H).objs.size=h.objs.size:=PySem.W.hideAll_size _ _
theorem p8 (e:h.get? b=some o)(n:H b=none):(wQ h H).get? b=some o :=
 PySem.W.hideAll_get _ e λhm=>by
  have q:(H b).isSome=true:=(vN hm).2;rw[n]at q;simp at q
theorem Ho (e:(wQ h H).get? b=some o):h.get? b=some o/\H b=none:=by
 have e':h.get? b=some o:=PySem.W.of_hideAll (Rn h H) e;refine⟨e',?_⟩;cases q:H b with
 |none=>rfl
 |some x=>
  have hm:b∈Rn h H:=List.mem_filter.mpr ⟨List.mem_range.mpr (vX e'),by simp[q]⟩;have z:(wQ h H).get? b=none:=PySem.W.hideAll_none (Rn h H) hm;rw[z]at e;cases e
noncomputable def Hq (g h:Heap)(L:Addr):List (Addr×Obj):=(List.range h.objs.size).filterMap λa=>if a=L∨(g.get? a).isSome=true then none else (h.get? a).map λo=>(a,o)
def aD (g h:Heap)(L d:Addr):List (Addr×Obj):=(Hq g h L).filter λp=>decide (p.1≠d)
structure Mod (K:PySem.W.Frag)(mg:Str->Option Value)(base:Heap):Prop where
 kin:K.In base
 glob:base.Ns mainGlobals mg
 blt:∃mb,base.Ns builtinsNs mb/\∀x:Str,x ≠ "__name__"->mb x=bootBuiltins x
 nolimit:base.NoLimit
 bmain:∃bm ob,mg "__builtins__" = some (.ref bm)/\bm≠builtinsNs/\base.get? bm=some ob/\ob.cls=.type "module"/\ob.dict=some builtinsNs/\ob.data=.plain
structure Cx where
 prog:Program
 w:World
 K:PySem.W.Frag
 mg:Str->Option Value
 base:Heap
 A:Around
 N:List Str
 s₀:Shared
 H₀:Hp
 env:Env
 outer:List Env
 stack:List Env
 ex:List Addr
 fn:Str->Bool
 calm:Bool
 pn:List (Addr×Obj)
 xe:Value->Shared->Prop
noncomputable def Cz (l:List Env):List Addr:=l.filterMap (·.frame)
abbrev Cx.fs (X:Cx):List Addr:=Cz X.outer
def DY (sc:Scope)(x:Str):Prop:=sc.names.lookup x=some .local∨sc.names.lookup x=some .cell∨sc.names.lookup x=some .free
def GY (sc:Scope)(x:Str):Prop:=sc.names.lookup x=some .local∨sc.names.lookup x=some .cell
def Se (env:Env)(h:Heap)(m:Str->Option Value)(x:Str)(u:Value):Prop :=
 (env.kindOf x=some .local/\m x=some u)∨((env.kindOf x=some .cell∨env.kindOf x=some .free)/\∃c,env.cells.lookup x=some c/\h.IsCell c (some u))
structure Cx.Ok (X:Cx):Prop where
 mod:Mod X.K X.mg X.base
 kind:X.env.scope.kind=.function
 glob:X.env.globals=mainGlobals
 blt:X.env.builtins=builtinsNs
 above:X.s₀.heap.objs.size<=X.env.locals
 inj:∀x y c,X.env.cells.lookup x=some c->X.env.cells.lookup y=some c->x=y
 has:∀x,(X.env.kindOf x=some .cell∨X.env.kindOf x=some .free)->∃c,X.env.cells.lookup x=some c
 cab:∀x c,X.fn x=true->X.env.cells.lookup x=some c->X.s₀.heap.objs.size<=c
 hd:X.calm=true->X.A.handled=none
 frames:X.A.frames=some X.stack
 stk:X.stack=X.outer∨(X.stack=X.env::X.outer/\X.env.frame=some X.env.locals)
 exf:∀b∈X.ex,b≠X.env.locals/\∀x c,X.env.cells.lookup x=some c->c≠b
 bs:∀b o,X.base.get? b=some o->X.s₀.heap.get? b=some o/\X.H₀ b=none
 bsz:X.base.objs.size<=X.s₀.heap.objs.size
 noex:∀b o,X.base.get? b=some o->b∉X.ex
 exfs:∀b∈X.ex,b∉X.fs
 funs:X.s₀.heap.FunFrames X.base X.outer
 frf:∀b∈X.fs,X.H₀ b=none
structure Inv (X:Cx)(ae:List (Addr×Obj))(σ:List (Option V))(H:Hp)(s:Shared):Prop where
 ok:X.Ok
 os:s.os=X.s₀.os
 bare:AllBare s.gens
 base:Un X.fs X.ex X.H₀ H X.s₀.heap s.heap
 loc:∃m,s.heap.Ns X.env.locals m/\∀(i:Nat)(x:Str)(v:V),X.N[i]? = some x->σ[i]? = some (some v)->DY X.env.scope x->∃u,ba v u/\Se X.env s.heap m x u
 cell:∀x c,X.env.cells.lookup x=some c->∃v,s.heap.IsCell c v
 free:H X.env.locals=none
 freeC:∀x c,X.env.cells.lookup x=some c->H c=none
 pin:∀p∈X.pn++ae,s.heap.get? p.1=some p.2/\H p.1=none/\p.1≠X.env.locals/\p.1∉X.fs/\∀v,p.2.data≠.cell v
 hok:lb X.prog X.w H s.heap
 len:σ.length=X.N.length
section
variable {X:Cx}{ae:List (Addr×Obj)}{σ:List (Option V)}{H H':Hp}{s:Shared}{h':Heap}
theorem Cx.Ok.nofr (ok:X.Ok)(e:X.base.get? b=some o):b∉X.fs:=λhb=>by
 have:=(ok.funs.mem hb).1;rw[e]at this;cases this
theorem Inv.bs (I:Inv X ae σ H s):∀b o,X.base.get? b=some o->s.heap.get? b=some o/\H b=none:=λb o e=>
 ⟨I.base.keep b o (I.ok.bs b o e).1 (I.ok.bs b o e).2 (I.ok.nofr e) (I.ok.noex b o e),I.base.free b o (I.ok.bs b o e).1 (I.ok.bs b o e).2 (I.ok.noex b o e)⟩
theorem Inv.bk (I:Inv X ae σ H s):∀b o,X.base.get? b=some o->s.heap.get? b=some o:=λb o e=>(I.bs b o e).1
theorem Inv.mod (I:Inv X ae σ H s):Mod X.K X.mg X.base:=I.ok.mod
theorem Inv.kIn (I:Inv X ae σ H s):X.K.In s.heap:=I.ok.mod.kin.keeps I.bk
theorem Inv.nolimit (I:Inv X ae σ H s):s.heap.NoLimit:=I.ok.mod.nolimit.keeps I.bk
theorem Inv.lt (I:Inv X ae σ H s):X.env.locals<s.heap.objs.size:=let ⟨_,hn,_⟩:=I.loc;hn.lt
theorem Inv.sz (I:Inv X ae σ H s):X.s₀.heap.objs.size<=s.heap.objs.size:=vR I.ok.above (Nat.le_of_lt I.lt)
theorem Inv.nofs (I:Inv X ae σ H s)(h:s.heap.objs.size<=a):a∉X.fs:=λhb=>by
 obtain⟨_,o,ho,_⟩:=I.ok.funs.mem hb;exact absurd (vQ (vX ho) (vR I.sz h)) (Nat.lt_irrefl _)
theorem Inv.cne (I:Inv X ae σ H s):∀x c,X.env.cells.lookup x=some c->c≠X.env.locals:=λx c e z=>by
 obtain⟨v,o,ho,hd⟩:=I.cell x c e;obtain⟨m,⟨o',es,ep,wD,D9,_⟩,_⟩:=I.loc;rw[z,wD]at ho;cases ho;rw[D9]at hd;cases hd
theorem Inv.funs (I:Inv X ae σ H s):s.heap.FunFrames X.base X.outer:=by
 have all:∀(l:List Env),(∀b∈Cz l,b∈X.fs)->X.s₀.heap.FunFrames X.base l->s.heap.FunFrames X.base l:=by
  intro l;induction l with
  |nil=>intro _ _;trivial
  |cons env r ih=>
   intro hs hl;obtain⟨hk,⟨L,o,hf,hn,ho,hd⟩,hr⟩:=hl;have hL:L∈X.fs:=hs L (by unfold Cz;rw[List.filterMap_cons,hf];exact mX);obtain⟨sl,e⟩:=I.base.slot L o ho (I.ok.frf L hL) hL λz=>I.ok.exfs L z hL;exact⟨hk,⟨L,_,hf,hn,e,hd⟩,ih (λb hb=>hs b (by unfold Cz;rw[List.filterMap_cons,hf];exact mZ _ hb)) hr⟩
 exact all X.outer (λ_ hb=>hb) I.ok.funs
theorem Inv.stack (I:Inv X ae σ H s):s.heap.FunFrames X.base X.stack:=by
 rcases I.ok.stk with e|⟨e,hf⟩
 ·rw[e];exact I.funs
 ·rw[e];obtain⟨m,hn,_⟩:=I.loc;refine .cons (by rw[I.ok.kind];decide) hf hn ?_ I.funs;exact Heap.get?_none_of_le (vR I.ok.bsz I.ok.above)
theorem Inv.stkSub (I:Inv X ae σ H s):∀b∈Cz X.stack,b∈X.env.locals::X.fs:=λb hb=>by
 rcases I.ok.stk with e|⟨e,hf⟩
 ·rw[e]at hb;exact mZ _ hb
 ·rw[e]at hb;unfold Cz at hb;rw[List.filterMap_cons,hf]at hb;exact hb
theorem Inv.stkFree (I:Inv X ae σ H s):∀b∈Cz X.stack,H b=none:=λb hb=>by
 rcases vP (I.stkSub b hb)with e|hb
 ·rw[e];exact I.free
 ·obtain⟨_,o,ho,_⟩:=I.ok.funs.mem hb;exact I.base.free b o ho (I.ok.frf b hb) λz=>I.ok.exfs b z hb
theorem Inv.step {g':Array GenState}{t':Nat}{d':Drawn}{ch:List Addr}(I:Inv X ae σ H s)
  (pe:∀b∈ch,(b∈X.ex∨X.s₀.heap.objs.size<=b)/\b≠X.env.locals/\(∀x c,X.env.cells.lookup x=some c->c≠b)/\∀p∈X.pn++ae,p.1≠b)
  (keep:∀b o,b≠X.env.locals->b∉X.fs->b∉ch->s.heap.get? b=some o->H b=none->h'.get? b=some o)
  (slot:∀b o,b≠X.env.locals->b∈X.fs->b∉ch->s.heap.get? b=some o->H b=none->∃sl,h'.get? b=some { o with slots:=sl }) (free:∀b o,b∉ch->s.heap.get? b=some o->H b=none->H' b=none)
  (there:∀b o,b∉ch->s.heap.get? b=some o->∃o',h'.get? b=some o')
  (tups:∀b xs,H b=some (.tup xs)->H' b=some (.tup xs)) (frzs:∀b o u,H b=some (.frz o u)->H' b=some (.frz o u)) (tbls:∀b q,H b=some (.tbl q)->H' b=some (.tbl q))
  (ns:∀m,s.heap.Ns X.env.locals m->h'.Ns X.env.locals m) (hok:lb X.prog X.w H' h') (hg:AllBare g'):
  Inv X ae σ H' { s with heap:=h',gens:=g',drawn:=d',toks:=t' }:=by
 have Vi:∀b o,X.s₀.heap.get? b=some o->b≠X.env.locals:=λb o e=>vS (vQ (vX e) I.ok.above);have Og:∀b o,X.s₀.heap.get? b=some o->b∉X.ex->b∉ch:=λb o e hx hb=>by
  rcases (pe b hb).1 with z|z
  ·exact hx z
  ·exact absurd (vQ (vX e) z) (Nat.lt_irrefl _)
 have KS:∀x c,X.env.cells.lookup x=some c->∀v,s.heap.IsCell c v->h'.IsCell c v:=λx c e v ⟨o,ho,hd⟩=>by
  have Qg:c∉ch:=λz=>(pe c z).2.2.1 x c e rfl;by_cases hc:c∈X.fs
  ·obtain⟨sl,q⟩:=slot c o (I.cne x c e) hc Qg ho (I.freeC x c e);exact⟨_,q,hd⟩
  ·exact⟨o,keep c o (I.cne x c e) hc Qg ho (I.freeC x c e),hd⟩
 refine⟨I.ok,I.os,hg,⟨λb o e n hb hx=>?_,λb o e n hb hx=>?_,λb o e n hx=>?_,λb o e hx=>?_,λb xs e=>tups b xs (I.base.tups b xs e),λb o xs e=>frzs b o xs (I.base.frzs b o xs e),λb ps e=>?_⟩,?_,λx c e=>?_,?_,λx c e=>?_,λp hp=>?_,hok,I.len⟩
 ·exact keep b o (Vi b o e) hb (Og b o e hx) (I.base.keep b o e n hb hx) (I.base.free b o e n hx)
 ·obtain⟨sl,e1⟩:=I.base.slot b o e n hb hx;obtain⟨Td,e2⟩:=slot b _ (Vi b o e) hb (Og b o e hx) e1 (I.base.free b o e n hx);exact⟨Td,e2⟩
 ·obtain⟨o',e1⟩:=I.base.there b o e hx;exact free b o' (Og b o e hx) e1 (I.base.free b o e n hx)
 ·obtain⟨o',e1⟩:=I.base.there b o e hx;exact there b o' (Og b o e hx) e1
 ·exact tbls b _ (I.base.tbls b ps e)
 ·obtain⟨m,hn,hl⟩:=I.loc;refine⟨m,ns m hn,λi x v e1 e2 e3=>?_⟩;obtain⟨u,r,l⟩:=hl i x v e1 e2 e3;refine⟨u,r,?_⟩;rcases l with l|⟨k,c,e,z⟩
  ·exact .inl l
  ·exact .inr ⟨k,c,e,KS x c e _ z⟩
 ·obtain⟨v,z⟩:=I.cell x c e;exact⟨v,KS x c e v z⟩
 ·obtain⟨m,⟨o,_,_,ho,_⟩,_⟩:=I.loc;exact free _ o (λz=>(pe _ z).2.1 rfl) ho I.free
 ·obtain⟨v,o,ho,hd⟩:=I.cell x c e;exact free c o (λz=>(pe c z).2.2.1 x c e rfl) ho (I.freeC x c e)
 ·obtain⟨e,n,ne,nf,d⟩:=I.pin p hp;have Qg:p.1∉ch:=λz=>(pe p.1 z).2.2.2 p hp rfl;exact⟨keep p.1 p.2 ne nf Qg e n,free p.1 p.2 Qg e n,ne,nf,d⟩
theorem Inv.un {t':Nat}(I:Inv X ae σ H s)(u:Un X.fs [] H H' s.heap h')(hok:lb X.prog X.w H' h'):Inv X ae σ H' { s with heap:=h',toks:=t' }:=by
 obtain⟨m,⟨o,es,ep,ho,r⟩,_⟩:=id I.loc;obtain⟨sl,hL⟩:=u.any ho I.free (by simp);exact I.step (g':=s.gens) (d':=s.drawn) (ch:=[]) (λ_ z=>nomatch z) (λb o _ hb _ e n=>u.keep b o e n hb (by simp)) (λb o _ hb _ e n=>u.slot b o e n hb (by simp)) (λb o _ e n=>u.free b o e n (by simp)) (λb o _ e=>u.there b o e (by simp)) u.tups u.frzs u.tbls (λm' hm=>by
  obtain⟨o',DR,Oh,wD,r'⟩:=hm;rw[ho]at wD;cases wD;exact⟨_,DR,Oh,hL,r'⟩) hok I.bare
theorem Inv.call {g':Array GenState}{t':Nat}{d':Drawn}{ch:List Addr}(I:Inv X ae σ H s)(u:Un (Cz X.stack) ch H H' s.heap h')(hok:lb X.prog X.w H' h')(hg:AllBare g')
  (pe:∀b∈ch,(b∈X.ex∨X.s₀.heap.objs.size<=b)/\b≠X.env.locals/\(∀x c,X.env.cells.lookup x=some c->c≠b)/\∀p∈X.pn++ae,p.1≠b):
  Inv X ae σ H' { s with heap:=h',gens:=g',drawn:=d',toks:=t' }:=by
 obtain⟨m,⟨o,es,ep,ho,r⟩,_⟩:=id I.loc;obtain⟨sl,hL⟩:=u.any ho I.free λz=>(pe _ z).2.1 rfl;exact I.step (ch:=ch) pe (λb o hL hb hc e n=>u.keep b o e n (λz=>(vP (I.stkSub b z)).elim hL hb) hc) (λb o _ _ hc e n=>u.any e n hc) (λb o hc e n=>u.free b o e n hc) (λb o hc e=>u.there b o e hc) u.tups u.frzs u.tbls (λm' hm=>by
  obtain⟨o',DR,Oh,wD,r'⟩:=hm;rw[ho]at wD;cases wD;exact⟨_,DR,Oh,hL,r'⟩) hok hg
theorem Inv.turned {t':Nat}{it:Addr}(I:Inv X ae σ H s)(k:∀b o,b≠it->s.heap.get? b=some o->h'.get? b=some o)(hn:H it=none)(hL:it≠X.env.locals)
  (h1:it∈X.ex∨X.s₀.heap.objs.size<=it) (h2:∀x c,X.env.cells.lookup x=some c->c≠it) (h3:∀p∈X.pn++ae,p.1≠it):Inv X ae σ H { s with heap:=h',toks:=t' }:=by
 have KU:∀b u,H b=some u->b≠it:=λb u e z=>by rw[z,hn]at e;cases e
 refine I.step (g':=s.gens) (d':=s.drawn) (ch:=[it]) (λb hb=>?_) (λb o _ _ hc e _=>k b o (λz=>hc (by simp[z])) e) (λb o _ _ hc e _=>⟨o.slots,k b o (λz=>hc (by simp[z])) e⟩) (λ_ _ _ _ n=>n)
  (λb o hc e=>⟨o,k b o (λz=>hc (by simp[z])) e⟩) (λ_ _ e=>e) (λ_ _ _ e=>e) (λ_ _ e=>e) (λm hm=>?_) (λb u e=>?_) I.bare
 ·have e:b=it:=by simpa using hb
  subst e;exact⟨h1,hL,h2,h3⟩
 ·obtain⟨o,es,ep,ho,r⟩:=hm;exact⟨o,es,ep,k _ o (Ne.symm hL) ho,r⟩
 ·refine(I.hok b u e).stay (λc v hc q=>k c v ?_ q) (λ_ q=>q) (λ_ _ q=>q) λ_ _ _ q=>q;rcases hc with z|z
  ·rw[z];exact KU b u e
  ·exact KU c _ z
theorem Inv.tok (I:Inv X ae σ H s)(t:Nat):Inv X ae σ H { s with toks:=t }:=I.un (h':=s.heap) (t':=t) Un.refl I.hok
theorem Inv.kept (I:Inv X ae σ H s)(k:∀b u,s.heap.get? b=some u->h'.get? b=some u):Inv X ae σ H { s with heap:=h',toks:=t' }:=I.un (Un.kept k) (I.hok.kept k)
theorem Inv.laid (I:Inv X ae σ H s)(k:∀b u,s.heap.get? b=some u->h'.get? b=some u)(hp:s.heap.objs.size<=a)(new:bO X.prog X.w (upd H a o) h' a o):
  Inv X ae σ (upd H a o) { s with heap:=h',toks:=t' }:=I.un (Un.laid k hp (I.hok.fresh hp)) (I.hok.laid k hp new)
theorem Inv.write (I:Inv X ae σ H s)(mu:O8 (H x))(he:e=x∨H e=some (.own x))(k:∀b u,b≠e->s.heap.get? b=some u->h'.get? b=some u)(Of:∃u,h'.get? e=some u)
  (new:bO X.prog X.w (upd H x o) h' x o):Inv X ae σ (upd H x o) { s with heap:=h',toks:=t' }:=I.un (Un.write mu he k Of) (I.hok.write mu he k Of new)
theorem Inv.pins_of (I:Inv X ae σ H s)(h:∀p∈GA,s.heap.get? p.1=some p.2/\H p.1=none/\p.1≠X.env.locals/\p.1∉X.fs/\∀v,p.2.data≠.cell v):Inv X GA σ H s :=
 ⟨I.ok,I.os,I.bare,I.base,I.loc,I.cell,I.free,I.freeC,λp hp=>(List.mem_append.mp hp).elim (λz=>I.pin p (List.mem_append_left _ z)) (h p),I.hok,I.len⟩
theorem wR {N:List Str}(hN:N.Nodup){i j:Nat}{x:Str}(a:N[i]? = some x)(b:N[j]? = some x):i=j:=by
 obtain⟨h1,e1⟩:=vV a;obtain⟨h2,e2⟩:=vV b;exact(List.getElem_inj hN).mp (e1.trans e2.symm)
theorem sA {M:Model}{A:Around}{E:Value->Shared->Prop}{i:Nat}{x:Str}{v:V}{u:Value}{Q:Unit->Shared->Prop}(I:Inv X ae σ H s)(hN:X.N.Nodup)(hi:X.N[i]? = some x)(hx:GY X.env.scope x)(r:ba v u)
  (h:∀s',Inv X ae (σ.set i (some v)) H s'->(∃a,Heap.SameBut a s.heap s'.heap/\(a=X.env.locals∨X.env.cells.lookup x=some a))->Q () s') (hf:X.fn x=true∨X.env.scope.names.lookup x=some .local:=by first|exact .inl rfl|exact .inr rfl|assumption):wpAny M A (storeName X.env x u) Q E s:=by
 obtain⟨m,hn,hl⟩:=id I.loc;have Te:(X.env.scope.kind == .class || (X.env.scope.kind == .module && X.env.locals != X.env.globals))=false:=by rw[I.ok.kind];rfl
 have DA:i<σ.length:=by rw[I.len];exact(vV hi).1
 have cne:=I.cne;have Cn:∀ {a:Addr}{h':Heap},(∃o,s.heap.get? a=some o/\H a=none)->Heap.SameBut a s.heap h'->lb X.prog X.w H h':=λ{a h'} ha hs b ob e=>by
  obtain⟨_,_,KW⟩:=ha;refine(I.hok b ob e).stay (λc w' hc q=>(hs.2 c ?_).trans q) (λ_ q=>q) (λ_ _ q=>q) λ_ _ _ q=>q;rintro rfl;rcases hc with rfl|hc
  ·rw[KW]at e;cases e
  ·rw[KW]at hc;cases hc
 rcases hx with hk|hk
 ·refine wpAny_storeName_local hk hn (λh' Tf hs=>?_) Te;obtain⟨oL,_,_,DS,_⟩:=id hn;refine h _ ⟨I.ok,I.os,I.bare,⟨λb o e n hb hx=>?_,λb o e n hb hx=>?_,I.base.free,λb o e hx=>?_,I.base.tups,I.base.frzs,I.base.tbls⟩,⟨_,Tf,λj y v' e1 e2 e3=>?_⟩,λy c e=>?_,I.free,I.freeC,λp hp=>?_,Cn ⟨oL,DS,I.free⟩ hs,by simpa using I.len⟩ ⟨_,hs,.inl rfl⟩
  ·exact(hs.2 b (vS (vQ (vX e) I.ok.above))).trans (I.base.keep b o e n hb hx)
  ·obtain⟨sl,e1⟩:=I.base.slot b o e n hb hx;exact⟨sl,(hs.2 b (vS (vQ (vX e) I.ok.above))).trans e1⟩
  ·obtain⟨o',e1⟩:=I.base.there b o e hx;exact⟨o',(hs.2 b (vS (vQ (vX e) I.ok.above))).trans e1⟩
  ·by_cases hj:j=i
   ·subst hj;rw[hi]at e1;cases e1;rw[List.getElem?_set_self DA]at e2;cases e2
    exact⟨u,r,.inl ⟨hk,by simp⟩⟩
   ·rw[vB (Ne.symm hj)]at e2;obtain⟨u',r',q⟩:=hl j y v' e1 e2 e3;refine⟨u',r',?_⟩;rcases q with⟨k,e⟩|⟨k,c,e,z⟩
    ·refine .inl ⟨k,?_⟩;have:y≠x:=λe=>hj (wR hN e1 (e ▸ hi));simp[this,e]
    ·exact .inr ⟨k,c,e,z.sameBut hs (cne y c e)⟩
  ·obtain⟨w',z⟩:=I.cell y c e;exact⟨w',z.sameBut hs (cne y c e)⟩
  ·obtain⟨e,n,ne,nf,d⟩:=I.pin p hp;exact⟨(hs.2 p.1 ne).trans e,n,ne,nf,d⟩
 ·have Tg:X.fn x=true:=by
   rcases hf with z|z
   ·exact z
   ·rw[z]at hk;cases hk
  obtain⟨c,hc⟩:=I.ok.has x (.inl hk);obtain⟨w',z⟩:=I.cell x c hc;refine wpAny_storeName_cell I.ok.kind hk hc z (λh' Jx hs=>?_);obtain⟨oc,DT,Th⟩:=id z;refine h { s with heap:=h' } ⟨I.ok,I.os,I.bare,⟨λb o e n hb hx=>?_,λb o e n hb hx=>?_,I.base.free,λb o e hx=>?_,I.base.tups,I.base.frzs,I.base.tbls⟩,⟨m,hn.sameBut hs (Ne.symm (cne x c hc)),λj y v' e1 e2 e3=>?_⟩,λy c' e=>?_,I.free,I.freeC,λp hp=>?_,Cn ⟨oc,DT,I.freeC x c hc⟩ hs,by simpa using I.len⟩ ⟨c,hs,.inr hc⟩
  ·exact(hs.2 b (vS (vQ (vX e) (I.ok.cab x c Tg hc)))).trans (I.base.keep b o e n hb hx)
  ·obtain⟨sl,e1⟩:=I.base.slot b o e n hb hx;exact⟨sl,(hs.2 b (vS (vQ (vX e) (I.ok.cab x c Tg hc)))).trans e1⟩
  ·obtain⟨o',e1⟩:=I.base.there b o e hx;exact⟨o',(hs.2 b (vS (vQ (vX e) (I.ok.cab x c Tg hc)))).trans e1⟩
  ·by_cases hj:j=i
   ·subst hj;rw[hi]at e1;cases e1;rw[List.getElem?_set_self DA]at e2;cases e2
    exact⟨u,r,.inr ⟨.inl hk,c,hc,Jx⟩⟩
   ·rw[vB (Ne.symm hj)]at e2;obtain⟨u',r',q⟩:=hl j y v' e1 e2 e3;refine⟨u',r',?_⟩;rcases q with q|⟨k,c',e,z'⟩
    ·exact .inl q
    ·refine .inr ⟨k,c',e,z'.sameBut hs ?_⟩;rintro rfl;exact hj (wR hN e1 (I.ok.inj _ _ _ e hc ▸ hi))
  ·by_cases hcc:c'=c
   ·subst hcc;exact⟨_,Jx⟩
   ·obtain⟨w2,z2⟩:=I.cell y c' e;exact⟨w2,z2.sameBut hs hcc⟩
  ·obtain⟨e,n,ne,nf,d⟩:=I.pin p hp;refine⟨(hs.2 p.1 ?_).trans e,n,ne,nf,d⟩;intro q;rw[q,DT]at e;have q':oc=p.2:=vK e;exact d w' (by rw[←q'];exact Th)
theorem wS {M:Model}{A:Around}{E:Value->Shared->Prop}{i:Nat}{x:Str}{v:V}{u:Value}{Q:Unit->Shared->Prop}(I:Inv X ae σ H s)(hN:X.N.Nodup)(hi:X.N[i]? = some x)(hx:GY X.env.scope x)(r:ba v u)
  (h:∀s',Inv X ae (σ.set i (some v)) H s'->Q () s') (hf:X.fn x=true∨X.env.scope.names.lookup x=some .local:=by first|exact .inl rfl|exact .inr rfl|assumption):wpAny M A (storeName X.env x u) Q E s :=
 sA I hN hi hx r (λs' I' _=>h s' I') hf
theorem Inv.call' (I:Inv X ae σ H s)(ho:s'.os=s.os)(u:Un (Cz X.stack) ch H H' s.heap s'.heap)(hok:lb X.prog X.w H' s'.heap)(hg:AllBare s'.gens)
  (pe:∀b∈ch,(b∈X.ex∨X.s₀.heap.objs.size<=b)/\b≠X.env.locals/\(∀x c,X.env.cells.lookup x=some c->c≠b)/\∀p∈X.pn++ae,p.1≠b):Inv X ae σ H' s':=by
 obtain⟨h',g',d',t',o'⟩:=s';have e:o'=s.os:=ho;subst e;exact I.call (g':=g') (t':=t') (d':=d') u hok hg pe
end
abbrev XK:=Value->Option Addr->Hp->Prop
abbrev St:=List (Option V)
abbrev VK:=V->Hp->Prop
abbrev TE:=St->Hp->VK->Prop
abbrev TT:=St->Hp->(Bool->Hp->Prop)->Prop
abbrev TA:=St->Hp->(List V->Hp->Prop)->Prop
structure Ends where
 nx:St->Hp->Prop
 rt:VK
 bk:St->Hp->Prop:=λ_ _=>False
 ct:St->Hp->Prop:=λ_ _=>False
abbrev TS:=Ends->St->Hp->Prop
def EP (X:Cx)(ae:List (Addr×Obj))(σ:St)(Q:VK)(u:Value)(s':Shared):Prop:=∃v H',Inv X ae σ H' s'/\ba v u/\Q v H'
def TP (X:Cx)(ae:List (Addr×Obj))(σ:St)(Q:Bool->Hp->Prop)(b:Bool)(s':Shared):Prop:=∃H',Inv X ae σ H' s'/\Q b H'
def AP (X:Cx)(ae:List (Addr×Obj))(σ:St)(Q:List V->Hp->Prop)(us:List Value)(s':Shared):Prop:=∃vs H',Inv X ae σ H' s'/\aW vs us/\Q vs H'
def SP (X:Cx)(ae:List (Addr×Obj))(D:Ends)(f:Flow)(s':Shared):Prop :=
 match f with
 |.next=>∃σ' H',Inv X ae σ' H' s'/\D.nx σ' H'
 |.brk=>∃σ' H',Inv X ae σ' H' s'/\D.bk σ' H'
 |.cont=>∃σ' H',Inv X ae σ' H' s'/\D.ct σ' H'
 |.ret u=>∃v σ' H',Inv X ae σ' H' s'/\ba v u/\D.rt v H'
def PE (X:Cx)(e:Expr)(t:TE):Prop :=
 ∀(ae:List (Addr×Obj))(s:Shared)(σ:St)(H:Hp)(Q:VK),Inv X ae σ H s->t σ H Q->wpAny (model X.prog X.w) X.A (eval e X.env) (EP X ae σ Q) X.xe s
def PT (X:Cx)(e:Expr)(t:TT):Prop :=
 ∀(ae:List (Addr×Obj))(s:Shared)(σ:St)(H:Hp)(Q:Bool->Hp->Prop),Inv X ae σ H s->t σ H Q->wpAny (model X.prog X.w) X.A (isTrue e X.env (eval e X.env)) (TP X ae σ Q) X.xe s
def PW (X:Cx)(e:Expr)(t:TT):Prop :=
 ∀(rN:Sem Value)(ae:List (Addr×Obj))(s:Shared)(σ:St)(H:Hp)(Q:Bool->Hp->Prop),Inv X ae σ H s->t σ H Q->wpAny (model X.prog X.w) X.A (isTrue e X.env rN) (TP X ae σ Q) X.xe s
theorem PW.pt (h:PW X e t):PT X e t:=h _
def PA (X:Cx)(es:List Expr)(t:TA):Prop :=
 ∀(pos:Pos)(ae:List (Addr×Obj))(s:Shared)(σ:St)(H:Hp)(Q:List V->Hp->Prop),Inv X ae σ H s->t σ H Q->wpAny (model X.prog X.w) X.A (spliced (backTo pos (starEach es X.env))) (AP X ae σ Q) X.xe s
def PS (X:Cx)(st:Stmt)(t:TS):Prop :=
 ∀(ae:List (Addr×Obj))(s:Shared)(σ:St)(H:Hp)(D:Ends),Inv X ae σ H s->t D σ H->wpAny (model X.prog X.w) X.A (exec st X.env) (SP X ae D) X.xe s
def uq (X:Cx)(st:List Stmt)(t:TS):Prop :=
 ∀(ae:List (Addr×Obj))(s:Shared)(σ:St)(H:Hp)(D:Ends),Inv X ae σ H s->t D σ H->wpAny (model X.prog X.w) X.A (execs st X.env) (SP X ae D) X.xe s
theorem cV {α:Type}{t:Sem α}{Q Q':α->Shared->Prop}{M:Model}{A:Around}{E:Value->Shared->Prop}{s:Shared}(h:wpAny M A t Q E s)(hQ:∀a s,Q a s->Q' a s):wpAny M A t Q' E s:=wpAny_mono h hQ λ_ _ x=>x
section
variable {X:Cx}
theorem Ze {a b:Expr}{ta tb:TE}(ha:PE X a ta)(hb:PE X b tb){ae:List (Addr×Obj)}{s:Shared}{σ:St}{H:Hp}{R:V->V->Hp->Prop}(I:Inv X ae σ H s)(h:ta σ H λx H1=>tb σ H1 λy H2=>R x y H2)
  {α:Type}{Q:α->Shared->Prop}{f:Value->Value->Sem α}
  (hf:∀v u s2 x y H2,Inv X ae σ H2 s2->ba x v->ba y u->R x y H2->wpAny (model X.prog X.w) X.A (f v u) Q X.xe s2):
  wpAny (model X.prog X.w) X.A (eval a X.env) (λv s₁=>wpAny (model X.prog X.w) X.A (eval b X.env) (λu s₂=>wpAny (model X.prog X.w) X.A (f v u) Q X.xe s₂) X.xe s₁) X.xe s:=by
 refine cV (ha ae s σ H _ I h) λv s1 ⟨x,H1,I1,r1,q1⟩=>?_;refine cV (hb ae s1 σ H1 _ I1 q1) λu s2 ⟨y,H2,I2,r2,q2⟩=>?_;exact hf v u s2 x y H2 I2 r1 r2 q2
def DZ (i:Nat):TE:=λσ H Q=>∃v,σ[i]? = some (some v)/\Q v H
def tC (v:V):TE:=λ_ H Q=>Q v H
theorem lA (hN:X.N[i]? = some x)(hv:DY X.env.scope x)(hd:(x == ("__debug__" : Str))=false:=by decide)(jz:(x == ("__classdict__" : Str))=false:=by decide):PE X (.Name x pos) (DZ i):=by
 intro ae s σ H Q I h;obtain⟨v,e,h⟩:=h;obtain⟨m,hn,hl⟩:=I.loc;obtain⟨u,r,l⟩:=hl i x v hN e hv;have lW:EP X ae σ Q u s:=⟨v,H,I,r,h⟩;rcases l with⟨hk,hm⟩|⟨hk,c,hc,KY⟩
 ·exact wpAny_Name (wpAny_loadName_local I.ok.kind hk hn hm lW) hd
 ·rcases hk with hk|hk
  ·exact wpAny_Name (wpAny_loadName_cell I.ok.kind hk hc KY lW) hd
  ·exact wpAny_Name (wpAny_loadName_free I.ok.kind hk hc KY lW jz) hd
theorem Ls {i j pos}:PE X (.Constant (.int i) j pos) (tC (.int i)):=λ_ _ _ H _ I h=>wpAny_Constant_int ⟨.int i,H,I.tok _,⟨_,rfl⟩,h⟩
theorem O9 {b j pos}:PE X (.Constant (.bool b) j pos) (tC (.bl b)):=λ_ _ _ H _ I h=>Constant_bool ⟨.bl b,H,I,rfl,h⟩
theorem Lu {j pos}:PE X (.Constant .none j pos) (tC .non):=λ_ _ _ H _ I h=>Constant_none ⟨.non,H,I,rfl,h⟩
theorem Lv {x j pos}:PE X (.Constant (.str x) j pos) (tC (.str x)):=λ_ _ _ H _ I h=>Calls.Constant_str ⟨.str x,H,I.tok _,⟨_,rfl⟩,h⟩
def Gl (X:Cx)(x:Str):Prop:=X.env.kindOf x=some .globalImplicit
theorem ur {E:Value->Shared->Prop}{ae:List (Addr×Obj)}{s:Shared}{σ:St}{H:Hp}{x:Str}{u:Value}{pos:Pos}{Q:Value->Shared->Prop}(I:Inv X ae σ H s)(hg:Gl X x)(hm:X.mg x=some u)(h:Q u s)
  (hd:(x == ("__debug__" : Str))=false:=by decide):wpAny (model X.prog X.w) X.A (eval (.Name x pos) X.env) Q E s :=
 Calls.Name_function_global I.ok.kind hg (Calls.loadGlobal_global (by rw[I.ok.glob];exact I.mod.glob.keeps I.bk) hm h) hd
theorem lB {E:Value->Shared->Prop}{ae:List (Addr×Obj)}{s:Shared}{σ:St}{H:Hp}{x:Str}{u:Value}{pos:Pos}{Q:Value->Shared->Prop}(I:Inv X ae σ H s)(hg:Gl X x)(hm:X.mg x=none)(hv:bootBuiltins x=some u)(h:Q u s)
  (hn:x ≠ "__name__":=by decide) (hd:(x == ("__debug__" : Str))=false:=by decide):wpAny (model X.prog X.w) X.A (eval (.Name x pos) X.env) Q E s:=by
 obtain⟨mb,h1,h2⟩:=I.mod.blt;exact Calls.Name_function_global I.ok.kind hg (Calls.loadGlobal_builtin (by rw[I.ok.glob];exact I.mod.glob.keeps I.bk) hm (by rw[I.ok.blt];exact h1.keeps I.bk) ((h2 x hn).trans hv) h) hd
theorem AJ (hg:Gl X x)(hm:X.mg x=some u)(r:ba v u)(hd:(x == ("__debug__" : Str))=false:=by decide):PE X (.Name x pos) (tC v) :=
 λ_ _ _ H _ I h=>ur I hg hm ⟨v,H,I,r,h⟩ hd
theorem Hr (hg:Gl X x)(hm:X.mg x=none)(hv:bootBuiltins x=some u)(r:ba v u)(hn:x ≠ "__name__":=by decide)(hd:(x == ("__debug__" : Str))=false:=by decide):PE X (.Name x pos) (tC v) :=
 λ_ _ _ H _ I h=>lB I hg hm hv ⟨v,H,I,r,h⟩ hn hd
def Wr (ta tb:TE)(k:Int->Int->Hp->Prop):St->Hp->Prop:=λσ H=>ta σ H λx H1=>tb σ H1 λy H2=>∃i j,x=.int i/\y=.int j/\k i j H2
variable {a b:Expr}{ta tb:TE}{pos:Pos}
def PC (X:Cx)(op:CmpOp)(a b:Expr)(t:TE):Prop :=
 ∀(ae:List (Addr×Obj))(s:Shared)(σ:St)(H:Hp)(Q:VK),Inv X ae σ H s->t σ H Q ->
  wpAny (model X.prog X.w) X.A (eval a X.env) (λv s₁=>wpAny (model X.prog X.w) X.A (eval b X.env) (λu s₂=>wpAny (model X.prog X.w) X.A (compareOp op v u) (EP X ae σ Q) X.xe s₂) X.xe s₁) X.xe s
theorem jW (b:Expr){op:CmpOp}(h:op≠.In)(h2:op≠.NotIn):behindInMarks op b=false:=by
 have e1:(op == CmpOp.In)=false:=by cases op<;>first|rfl|exact absurd rfl h
 have e2:(op == CmpOp.NotIn)=false:=by cases op<;>first|rfl|exact absurd rfl h2
 cases b<;>simp[behindInMarks,e1,e2]
def OA (p:Int->Int->Bool)(ta tb:TE):TE:=λσ H Q=>Wr ta tb (λi j H2=>Q (.bl (p i j)) H2) σ H
abbrev Lx:TE->TE->TE:=OA λi j=>decide (i<j)
abbrev Ws:TE->TE->TE:=OA λi j=>decide (j<i)
def tB (t:TE):TT:=λσ H Q=>t σ H λx H1=>∃c,x=.bl c/\Q c H1
theorem Ly (h:PC X op a b t)(h1:behindInMarks op b=false:=by first|exact jW _ (by decide) (by decide)|rfl):PE X (.Compare a [op] [b] pos) t:=λae s σ H Q I hw=>wpAny_Compare1 (h ae s σ H Q I hw) h1
theorem Sf {op:CmpOp}{t:TE}(h:PC X op a b t)(h1:behindInMarks op b=false:=by first|exact jW _ (by decide) (by decide)|rfl):PT X (.Compare a [op] [b] pos) (tB t):=by
 intro ae s σ H Q I hw;refine wpAny_isTrue_Compare1 (cV (h ae s σ H _ I hw) λv s1 h1=>cV h1 λu s2 h2=>cV h2 λc s3 ⟨x,H1,I1,r1,q1⟩=>?_) h1;obtain⟨d,rfl,q⟩:=q1;cases r1
 exact wpAny_truthy_bool ⟨H1,I1,q⟩
theorem Lz {e:Expr}{t:TE}(h:PE X e t)(he:∀rN,isTrue e X.env rN=(do let v ←rN;standAt e.pos;holding [v] (truthy v)):=by intro _;rfl):PT X e (tB t):=by
 intro ae s σ H Q I hw;refine isTrue_plain (cV (h ae s σ H _ I hw) λv s1 ⟨x,H1,I1,r1,q1⟩=>?_) (he _);obtain⟨d,rfl,q⟩:=q1;cases r1
 exact wpAny_truthy_bool ⟨H1,I1,q⟩
variable {tA R8:TT}{aD:List Expr}
def OB (t u:TT):TT:=λσ H Q=>t σ H λc H1=>if c=true then u σ H1 Q else Q false H1
def U6 (t u:TT):TT:=λσ H Q=>t σ H λc H1=>if c=true then Q true H1 else u σ H1 Q
def OC (t:TT):TT:=λσ H Q=>t σ H λc H1=>Q (!c) H1
theorem Hs (ha:PT X a tA):PW X (.BoolOp .And [a] pos) tA:=by
 intro wh ae s σ H Q I h;refine isTrue_and (cV (ha ae s σ H Q I h) λc s1 e=>?_);cases c with
 |true=>exact isTrue_and_nil e
 |false=>exact e
theorem L0 (ha:PT X a tA):PW X (.BoolOp .Or [a] pos) tA:=by
 intro wh ae s σ H Q I h;refine isTrue_or (cV (ha ae s σ H Q I h) λc s1 e=>?_);cases c with
 |false=>exact isTrue_or_nil e
 |true=>exact e
theorem L3 (ha:PT X a tA)(hb:PW X (.BoolOp .And (b::aD) pos) R8):PW X (.BoolOp .And (a::b::aD) pos) (OB tA R8):=by
 intro wh ae s σ H Q I h;refine isTrue_and (cV (ha ae s σ H _ I h) λc s1 ⟨H1,I1,q1⟩=>?_);cases c with
 |true=>exact hb wh ae s1 σ H1 Q I1 q1
 |false=>exact⟨H1,I1,q1⟩
theorem OD (ha:PT X a tA)(hb:PW X (.BoolOp .Or (b::aD) pos) R8):PW X (.BoolOp .Or (a::b::aD) pos) (U6 tA R8):=by
 intro wh ae s σ H Q I h;refine isTrue_or (cV (ha ae s σ H _ I h) λc s1 ⟨H1,I1,q1⟩=>?_);cases c with
 |true=>exact⟨H1,I1,q1⟩
 |false=>exact hb wh ae s1 σ H1 Q I1 q1
theorem L4 (ha:PT X a tA):PT X (.UnaryOp .Not a pos) (OC tA):=by
 intro ae s σ H Q I h;exact isTrue_not (ha ae s σ H (λc H1=>Q (!c) H1) I h)
def OE (ta tb:TE):TE:=λσ H Q=>ta σ H λx H1=>∃c,x=.bl c/\if c=true then tb σ H1 Q else Q (.bl false) H1
def Sg (ta tb:TE):TE:=λσ H Q=>ta σ H λx H1=>∃c,x=.bl c/\if c=true then Q (.bl true) H1 else tb σ H1 Q
def OF (ta:TE):TE:=λσ H Q=>ta σ H λx H1=>∃c,x=.bl c/\Q (.bl (!c)) H1
theorem L5 {op}(h:PE X a t):PE X (.BoolOp op [a] pos) t:=λae s σ H Q I hw=>BoolOp_one (h ae s σ H Q I hw)
theorem L6 (ha:PE X a ta)(hb:PE X (.BoolOp .And (b::aD) pos) tb):PE X (.BoolOp .And (a::b::aD) pos) (OE ta tb):=by
 intro ae s σ H Q I h;refine BoolOp_and (cV (ha ae s σ H _ I h) λv s1 ⟨x,H1,I1,r1,q1⟩=>?_);obtain⟨c,rfl,q1⟩:=q1;cases r1
 refine wpAny_truthy_bool ?_;cases c with
 |true=>exact hb ae s1 σ H1 Q I1 q1
 |false=>exact⟨.bl false,H1,I1,rfl,q1⟩
theorem OG (ha:PE X a ta)(hb:PE X (.BoolOp .Or (b::aD) pos) tb):PE X (.BoolOp .Or (a::b::aD) pos) (Sg ta tb):=by
 intro ae s σ H Q I h;refine BoolOp_or (cV (ha ae s σ H _ I h) λv s1 ⟨x,H1,I1,r1,q1⟩=>?_);obtain⟨c,rfl,q1⟩:=q1;cases r1
 refine wpAny_truthy_bool ?_;cases c with
 |false=>exact hb ae s1 σ H1 Q I1 q1
 |true=>exact⟨.bl true,H1,I1,rfl,q1⟩
theorem L7 (ha:PE X a ta):PE X (.UnaryOp .Not a pos) (OF ta):=by
 intro ae s σ H Q I h;refine UnaryOp_ (cV (ha ae s σ H _ I h) λv s1 ⟨x,H1,I1,r1,q1⟩=>?_);obtain⟨c,rfl,q1⟩:=q1;cases r1
 exact not_of (wpAny_truthy_bool ⟨.bl (!c),H1,I1,rfl,q1⟩)
end
def iF (K:PySem.W.Frag)(H:Hp)(a:Addr)(xs:List V):Prop :=
 Rd H a (.lst xs) ∨
  ∃(o:Obj)(its:Array Value)(n:Nat),K.lookup a=some o/\o.cls=.type "list"/\o.dict=none/\o.data=.seq its n/\its.size<=sizeLine/\aW xs its.toList
def jf (K:PySem.W.Frag)(H:Hp)(a:Addr)(xs:List V):Prop :=
 Rd H a (.tup xs) ∨
  ∃(o:Obj)(its:Array Value)(n:Nat),K.lookup a=some o/\o.cls=.type "tuple"/\o.data=.seq its n/\its.size<=sizeLine/\aW xs its.toList
noncomputable def Sh:Value->Option V
 |.none=>some .non
 |.bool b=>some (.bl b)
 |.int i _=>some (.int i)
 |.str x _=>some (.str x)
 |.bytes b _=>some (.byt b)
 |.float b _=>some (.flt b)
 |.ref a=>some (.ref a)
 |.type n=>some (.ty n)
 |_=>none
theorem ba.abs (r:ba x u):Sh u=some x:=by
 cases x with
 |non=>cases r;rfl
 |bl _=>cases r;rfl
 |int _=>obtain⟨t,rfl⟩:=r;rfl
 |str _=>obtain⟨t,rfl⟩:=r;rfl
 |byt _=>obtain⟨t,rfl⟩:=r;rfl
 |flt _=>obtain⟨t,rfl⟩:=r;rfl
 |ref _=>cases r;rfl
 |ty _=>cases r;rfl
theorem ba.inj (r:ba x u)(q:ba y u):x=y:=vK (r.abs.symm.trans q.abs)
theorem aW.inj:∀ {xs ys:List V}{us:List Value},aW xs us->aW ys us->xs=ys
 |_,_,_,.nil,.nil=>rfl
 |_,_,_,.cons r t,.cons r' t'=>by rw[r.inj r',aW.inj t t']
section
variable {X:Cx}{ae:List (Addr×Obj)}{σ:St}{H:Hp}{s:Shared}{a:Addr}{xs ys:List V}
theorem iF.of {K:PySem.W.Frag}(h:H a=some (.lst xs)):iF K H a xs:=.inl (.inl h)
theorem jf.of {K:PySem.W.Frag}(h:H a=some (.tup xs)):jf K H a xs:=.inl (.inl h)
theorem Inv.list (I:Inv X ae σ H s)(h:iF X.K H a xs):∃its:List Value,aW xs its/\PlainL s.heap a its.toArray/\xs.length<=sizeLine:=by
 rcases h with h|⟨o,its,n,hk,hc,hd,hs,hz,r⟩
 ·obtain⟨z,its,n,r,e⟩:=h.ok I.hok;exact⟨its,r,⟨_,n,e,rfl,rfl,rfl⟩,z⟩
 ·refine⟨its.toList,r,⟨o,n,I.kIn a o hk,hc,hd,by simpa using hs⟩,?_⟩;have e:=r.length;simp only[vG]at e;omega
theorem Inv.tuple (I:Inv X ae σ H s)(h:jf X.K H a xs):∃its:List Value,aW xs its/\IsTup s.heap a its.toArray/\xs.length<=sizeLine:=by
 rcases h with h|⟨o,its,n,hk,hc,hs,hz,r⟩
 ·obtain⟨z,its,r,p⟩:=h.ok I.hok;exact⟨its,r,p,z⟩
 ·refine⟨its.toList,r,⟨o,I.kIn a o hk,hc,n,by simpa using hs⟩,?_⟩;have e:=r.length;simp only[vG]at e;omega
theorem Inv.list_inj (I:Inv X ae σ H s)(h:iF X.K H a xs)(h':iF X.K H a ys):xs=ys:=by
 obtain⟨its,r,⟨o,n,e,_,_,d⟩,_⟩:=I.list h;obtain⟨its',r',⟨o',n',e',_,_,d'⟩,_⟩:=I.list h';rw[e]at e';cases e';rw[d]at d';injection d' with d1 _;have:its=its':=by simpa using congrArg Array.toList d1
 subst this;exact r.inj r'
theorem Inv.tuple_inj (I:Inv X ae σ H s)(h:jf X.K H a xs)(h':jf X.K H a ys):xs=ys:=by
 obtain⟨its,r,⟨o,e,_,n,d⟩,_⟩:=I.tuple h;obtain⟨its',r',⟨o',e',_,n',d'⟩,_⟩:=I.tuple h';rw[e]at e';cases e';rw[d]at d';injection d' with d1 _;have:its=its':=by simpa using congrArg Array.toList d1
 subst this;exact r.inj r'
end
noncomputable abbrev Cx.wish (X:Cx)(E:Value->Shared->Prop):Cx:={ X with xe:=E }
noncomputable abbrev Cx.nox (X:Cx):Cx:=X.wish λ_ _=>False
theorem Cx.Ok.wish {X:Cx}(ok:X.Ok)(E:Value->Shared->Prop):(X.wish E).Ok :=
 ⟨ok.mod,ok.kind,ok.glob,ok.blt,ok.above,ok.inj,ok.has,ok.cab,ok.hd,ok.frames,ok.stk,ok.exf,ok.bs,ok.bsz,ok.noex,ok.exfs,ok.funs,ok.frf⟩
theorem Cx.Ok.unwish {X:Cx}{E:Value->Shared->Prop}(ok:(X.wish E).Ok):X.Ok :=
 ⟨ok.mod,ok.kind,ok.glob,ok.blt,ok.above,ok.inj,ok.has,ok.cab,ok.hd,ok.frames,ok.stk,ok.exf,ok.bs,ok.bsz,ok.noex,ok.exfs,ok.funs,ok.frf⟩
section
variable {X:Cx}{ae:List (Addr×Obj)}{σ:St}{H:Hp}{s:Shared}{E:Value->Shared->Prop}
theorem Inv.wish (I:Inv X ae σ H s)(E:Value->Shared->Prop):Inv (X.wish E) ae σ H s:=⟨I.ok.wish E,I.os,I.bare,I.base,I.loc,I.cell,I.free,I.freeC,I.pin,I.hok,I.len⟩
theorem Inv.unwish (I:Inv (X.wish E) ae σ H s):Inv X ae σ H s:=⟨I.ok.unwish,I.os,I.bare,I.base,I.loc,I.cell,I.free,I.freeC,I.pin,I.hok,I.len⟩
theorem SP.unwish (h:SP (X.wish E) ae D f s'):SP X ae D f s':=by
 cases f with
 |next=>obtain⟨σ',H',I,q⟩:=h;exact⟨σ',H',I.unwish,q⟩
 |brk=>obtain⟨σ',H',I,q⟩:=h;exact⟨σ',H',I.unwish,q⟩
 |cont=>obtain⟨σ',H',I,q⟩:=h;exact⟨σ',H',I.unwish,q⟩
 |ret u=>obtain⟨v,σ',H',I,r,q⟩:=h;exact⟨v,σ',H',I.unwish,r,q⟩
theorem PE.nox (h:PE X.nox e t):PE X e t:=λae s σ H Q I hw=>
 wpAny_mono (h ae s σ H Q (I.wish _) hw) (λ_ _ ⟨v,H',I',r,q⟩=>⟨v,H',I'.unwish,r,q⟩) λ_ _ z=>False.elim z
theorem PT.nox (h:PT X.nox e t):PT X e t:=λae s σ H Q I hw=>
 wpAny_mono (h ae s σ H Q (I.wish _) hw) (λ_ _ ⟨H',I',q⟩=>⟨H',I'.unwish,q⟩) λ_ _ z=>False.elim z
theorem uq.nox {st:List Stmt}{t:TS}(h:uq X.nox st t):uq X st t:=λae s σ H D I hw=>
 wpAny_mono (h ae s σ H D (I.wish _) hw) (λ_ _ q=>q.unwish) λ_ _ z=>False.elim z
end
section
variable {X:Cx}{st:Stmt}{aD:List Stmt}{t u:TS}{e:Expr}{te:TE}{pos:Pos}
def JU:TS:=λD σ H=>D.nx σ H
def OH (t u:TS):TS:=λD σ H=>t { D with nx:=u D } σ H
theorem Ht:uq X [] JU:=λ_ _ σ H _ I h=>wpAny_execs_nil ⟨σ,H,I,h⟩
theorem Ea (h1:PS X st t)(h2:uq X aD u):uq X (st::aD) (OH t u):=by
 intro ae s σ H D I h;refine wpAny_execs_cons (cV (h1 ae s σ H { D with nx:=u D } I h) λf s1 q=>?_);cases f with
 |next=>
  obtain⟨σ',H',I',q⟩:=q;exact h2 ae s1 σ' H' D I' q
 |ret v=>exact q
 |brk=>exact q
 |cont=>exact q
theorem Hu (h1:PS X st t):uq X [st] t:=by
 intro ae s σ H D I h;refine wpAny_execs_cons (cV (h1 ae s σ H D I h) λf s1 q=>?_);cases f with
 |next=>exact wpAny_execs_nil q
 |ret v=>exact q
 |brk=>exact q
 |cont=>exact q
def OI:TS:=λD σ H=>D.ct σ H
theorem wT:PS X (.Continue pos) OI:=λ_ _ σ H _ I h=>wpAny_Continue ⟨σ,H,I,h⟩
theorem Inv.quiet (I:Inv X ae σ H s):interactive X.env=false:=by simp[interactive,I.ok.kind]
def OJ (te:TE):TS:=λD σ H=>te σ H λ_ H1=>D.nx σ H1
theorem Hv (he:PE X e te)(hs:swapsWith e none pos.line X.env=pure false:=by rfl):PS X (.Expr e pos) (OJ te):=by
 intro ae s σ H D I h;exact wpAny_Expr_any (cV (he ae s σ H _ I h) λv s1 ⟨x,H1,I1,r1,q1⟩=>⟨σ,H1,I1,q1⟩) I.quiet hs
def L8 (te:TE):TS:=λD σ H=>te σ H D.rt
theorem Eb (he:PE X e te):PS X (.Return (some e) pos) (L8 te):=by
 intro ae s σ H D I h;exact wpAny_Return_some (cV (he ae s σ H _ I h) λv s1 ⟨x,H1,I1,r1,q1⟩=>⟨x,σ,H1,I1,r1,q1⟩)
def OK (c:TT)(t u:TS):TS:=λD σ H=>c σ H λb H1=>if b=true then t D σ H1 else u D σ H1
theorem OL {c:Expr}{a b:List Stmt}{tc:TT}(hc:PT X c tc)(ha:uq X a t)(hb:uq X b u):PS X (.If c a b pos) (OK tc t u):=by
 intro ae s σ H D I h;refine wpAny_If (cV (hc ae s σ H _ I h) λd s1 ⟨H1,I1,q1⟩=>?_);cases d with
 |true=>exact ha ae s1 σ H1 D I1 q1
 |false=>exact hb ae s1 σ H1 D I1 q1
end
abbrev TG:=V->St->Hp->(St->Hp->Prop)->Prop
abbrev JV:=List V->St->Hp->(St->Hp->Prop)->Prop
def PG (X:Cx)(rP:Expr)(t:TG):Prop :=
 ∀(ae:List (Addr×Obj))(s:Shared)(σ:St)(H:Hp)(v:V)(u:Value)(Q:St->Hp->Prop),Inv X ae σ H s->ba v u->t v σ H Q ->
  wpAny (model X.prog X.w) X.A (assign rP X.env u) (λ_ s'=>∃σ' H',Inv X ae σ' H' s'/\Q σ' H') X.xe s
def OM (X:Cx)(ts:List Expr)(t:JV):Prop :=
 ∀(ae:List (Addr×Obj))(s:Shared)(σ:St)(H:Hp)(vs:List V)(us:List Value)(Q:St->Hp->Prop),Inv X ae σ H s->aW vs us->t vs σ H Q ->
  wpAny (model X.prog X.w) X.A (assignInOrder ((assignEach ts X.env).map (·.2)) us) (λ_ s'=>∃σ' H',Inv X ae σ' H' s'/\Q σ' H') X.xe s
abbrev L9:=V->V->V->Hp->(Hp->Prop)->Prop
def ON (X:Cx)(t:L9):Prop :=
 ∀(ae:List (Addr×Obj))(s:Shared)(σ:St)(H:Hp)(o i v:V)(ov iv u:Value)(Q:Hp->Prop),Inv X ae σ H s->ba o ov->ba i iv->ba v u->t o i v H Q ->
  wpAny (model X.prog X.w) X.A (setItem ov iv u) (λ_ s'=>∃H',Inv X ae σ H' s'/\Q H') X.xe s
section
variable {X:Cx}{pos:Pos}
def jM (i:Nat):TG:=λv σ H Q=>Q (σ.set i (some v)) H
theorem AK (hN:X.N.Nodup)(hi:X.N[i]? = some x)(hx:GY X.env.scope x)(hf:X.fn x=true∨X.env.scope.names.lookup x=some .local:=by first|exact .inl rfl|exact .inr rfl|assumption):PG X (.Name x pos) (jM i):=by
 intro ae s σ H v u Q I r h;exact wpAny_assign_Name (wS I hN hi hx r (λs' I'=>⟨_,H,I',h⟩) hf)
def OO:JV:=λvs σ H Q=>vs=[]/\Q σ H
def JX (t:TG)(u:JV):JV:=λvs σ H Q=>∃v r,vs=v::r/\t v σ H λσ' H'=>u r σ' H' Q
theorem lX:OM X [] OO:=by
 intro ae s σ H vs us Q I r h;obtain⟨e,h⟩:=h;subst e;cases r
 exact assignInOrder_nil ⟨σ,H,I,h⟩
theorem eM {e:Expr}{es:List Expr}{t:TG}{u:JV}(h1:PG X e t)(h2:OM X es u)
  (hs:(assignEach (e::es) X.env).map (·.2)=assign e X.env::(assignEach es X.env).map (·.2):=by rfl):OM X (e::es) (JX t u):=by
 intro ae s σ H vs us Q I r h;obtain⟨v,vr,e1,h⟩:=h;subst e1;cases r with
 |cons r rr=>
  rw[hs];refine assignInOrder_cons (cV (h1 ae s σ H _ _ _ I r h) λ_ s1 ⟨σ1,H1,I1,q1⟩=>?_);exact h2 ae s1 σ1 H1 _ _ Q I1 rr q1
def LA (K:PySem.W.Frag)(n:Nat)(t:JV):TG:=λv σ H Q=>∃a xs,v=.ref a/\jf K H a xs/\xs.length=n/\t xs σ H Q
theorem ut (hc:X.calm=true)(h:OM X es t)
  (hn:(assignEach es X.env).length=n:=by rfl) (jL:(assignEach es X.env).findIdx? (·.1)=none:=by rfl):PG X (.Tuple es k pos) (LA X.K n t):=by
 intro ae s σ H v u Q I r hw;obtain⟨a,xs,e1,hq,hl,hw⟩:=hw;subst e1;cases r
 obtain⟨its,rv,ht,hz⟩:=I.tuple hq;refine assign_Tuple_tuple (I.ok.hd hc) ht (by simp[hn,←hl,rv.length]) jL λh' hx=>?_;have I1:Inv X ae σ H { s with heap:=h' }:=I.kept (t':=s.toks) λb o e=>hx b o (vS (vX e)) e;exact h ae _ σ H xs _ Q I1 (by simpa using rv) hw
def Si (to ti:TE)(t:L9):TG:=λv σ H Q=>to σ H λo H1=>ti σ H1 λi H2=>t o i v H2 λH3=>Q σ H3
theorem LB {o i:Expr}{to ti:TE}{t:L9}(ho:PE X o to)(hi:PE X i ti)(hs:ON X t)
  (ha:∀v,assign (.Subscript o i pos) X.env v=(do
   let ov ←holding [v] (eval o X.env)
   let iv ←holding [v,ov] (eval i X.env)
   standAt pos
   holding [v,ov,iv] (setItem ov iv v)
   release [v,ov,iv] []):=by intro _;rfl):PG X (.Subscript o i pos) (Si to ti t):=by
 intro ae s σ H v u Q I r h;rw[ha];refine wX (wpAny_holding (cV (ho ae s σ H _ I h) λov s1 ⟨x,H1,I1,r1,q1⟩=>?_));refine wX (wpAny_holding (cV (hi ae s1 σ H1 _ I1 q1) λiv s2 ⟨y,H2,I2,r2,q2⟩=>?_));refine wX (wpAny_standAt (wX (wpAny_holding (cV (hs ae s2 σ H2 x y v ov iv u _ I2 r1 r2 r q2) λ_ s3 ⟨H3,I3,q3⟩=>?_))));exact wpAny_release ⟨σ,H3,I3,q3⟩
def wU (te:TE)(g:TG):TS:=λD σ H=>te σ H λx H1=>g x σ H1 D.nx
theorem Ec {tg e:Expr}{te:TE}{g:TG}(he:PE X e te)(hg:PG X tg g)(hs:swapsWithSole [tg] e pos.line X.env=pure false:=by rfl)(hw:swappedStores [tg] e X.env=pure none:=by rfl)
  (h1:(assignEach [tg] X.env).map (·.2)=[assign tg X.env]:=by rfl):PS X (.Assign [tg] e pos) (wU te g):=by
 intro ae s σ H D I h;refine wpAny_Assign_stores (cV (he ae s σ H _ I h) λv s1 ⟨x,H1,I1,r1,q1⟩=>?_) hs hw;rw[h1];exact cV (hg ae s1 σ H1 x v _ I1 r1 q1) λ_ s2 q=>q
theorem uu {i:Nat}{x:Str}{e:Expr}{te:TE}{zh:Pos}(hN:X.N.Nodup)(hi:X.N[i]? = some x)(hx:GY X.env.scope x)(he:PE X e te)(hs:swapsWith e (some (.Name x zh)) pos.line X.env=pure false:=by rfl)(hf:X.fn x=true∨X.env.scope.names.lookup x=some .local:=by first|exact .inl rfl|exact .inr rfl|assumption):
  PS X (.Assign [.Name x zh] e pos) (wU te (jM i)):=by
 intro ae s σ H D I h;refine wpAny_Assign_Name (cV (he ae s σ H _ I h) λv s1 ⟨y,H1,I1,r1,q1⟩=>?_) hs;exact wS I1 hN hi hx r1 (λs2 I2=>⟨_,H1,I2,q1⟩) hf
end
structure It where
 go:Nat->Hp->Prop
 yld:Nat->Hp->V->Hp->Prop
 stop:Nat->Hp->Prop
def np (X:Cx)(ae:List (Addr×Obj))(H:Hp)(b:Addr):Prop :=
 H b=none/\b≠X.env.locals/\b∉X.fs/\(b∈X.ex∨X.s₀.heap.objs.size<=b)/\(∀x c,X.env.cells.lookup x=some c->c≠b)/\∀p∈X.pn++ae,p.1≠b
theorem Inv.fpOk (I:Inv X ae σ H s)(hb:s.heap.objs.size<=b)(hn:H' b=none):np X ae H' b:=by
 refine⟨hn,Nat.ne_of_gt (vQ I.lt hb),I.nofs hb,.inr (vR I.sz hb),λx c e z=>?_,λp hp z=>?_⟩
 ·obtain⟨v,q⟩:=I.cell x c e;exact absurd (vQ q.lt (by rw[z];exact hb)) (Nat.lt_irrefl _)
 ·exact absurd (vQ (vX (I.pin p hp).1) (by rw[z];exact hb)) (Nat.lt_irrefl _)
structure Turn (P:Program)(w:World)(K:PySem.W.Frag)(tg:Expr)(J:It)(fp:List Addr)(it:Addr)(tn:Nat->Heap->Prop):Prop where
 mem:it∈fp
 obj:∀i h,tn i h->∀b∈fp,∃o,h.get? b=some o/\∀v,o.data≠.cell v
 keep:∀i h h',tn i h->(∀b∈fp,∀o,h.get? b=some o->h'.get? b=some o)->tn i h'
 item:∀(X:Cx),X.prog=P->X.w=w->X.K=K->X.calm=true->∀(i:Nat)(ae:List (Addr×Obj))(s:Shared)(σ:St)(H:Hp)(E:Value->Shared->Prop),Inv X ae σ H s->(∀b∈fp,np X ae H b)->tn i s.heap->J.go i H ->
  wpAny (model P w) X.A (pyNext (.ref it)) (λr s1=>∃u,r=some u /\
   wpAny (model P w) X.A (letOwnedTupleGo tg (.ref it) u) (λ_ s2=>∃x H',Inv X ae σ H' s2/\ba x u/\J.yld i H x H'/\tn (i+1) s2.heap/\∀b∈fp,H' b=none) E s1) E s
 done:∀(X:Cx),X.prog=P->X.w=w->X.K=K->X.calm=true->∀(i:Nat)(ae:List (Addr×Obj))(s:Shared)(σ:St)(H:Hp)(E:Value->Shared->Prop),Inv X ae σ H s->(∀b∈fp,np X ae H b)->tn i s.heap->J.stop i H ->
  wpAny (model P w) X.A (pyNext (.ref it)) (λr s1=>r=none/\Inv X ae σ H s1) E s
 self:∀(A:Around)(i:Nat)(s:Shared)(Q:Value->Shared->Prop)(E:Value->Shared->Prop),tn i s.heap->Q (.ref it) s->wpAny (model P w) A (pyIter (.ref it)) Q E s
abbrev TI:=St->Hp->(It->Hp->Prop)->Prop
def U7 (X:Cx)(ae:List (Addr×Obj))(σ:St)(tg:Expr)(R:It->Hp->Prop)(R9:Value)(s2:Shared):Prop :=
 ∃(it:Addr)(fp:List Addr)(tn:Nat->Heap->Prop)(J:It)(H':Hp),R9=.ref it/\Inv X ae σ H' s2/\Turn X.prog X.w X.K tg J fp it tn/\tn 0 s2.heap/\(∀b∈fp,np X ae H' b)/\R J H'
def PI (X:Cx)(tg df:Expr)(wi:TI):Prop :=
 ∀(ae:List (Addr×Obj))(s:Shared)(σ:St)(H:Hp)(R:It->Hp->Prop),Inv X ae σ H s->wi σ H R ->
  wpAny (model X.prog X.w) X.A (eval df X.env) (λv s1=>wpAny (model X.prog X.w) X.A (pyIter v) (U7 X ae σ tg R) X.xe s1) X.xe s
theorem sC (ho:s.heap.get? it=some o)(hc:o.cls=.type n)(hd:o.data=.fields vs)
    (hn:["enumerate","zip","dict_itemiterator","dict_reverseitemiterator","odict_iterator","itertools.zip_longest","itertools.pairwise"].contains n=false) (hQ:Q () s):wpAny M A (letOwnedTupleGo tg (.ref it) u) Q E s:=by
  unfold letOwnedTupleGo;cases tg<;>first
    |exact wY hQ
    | (cases u<;>first
        |exact wY hQ
        | (refine wX (wpAny_load ho ?_)
           rw[hc,hd]
           show wpAny M A (if(["enumerate","zip","dict_itemiterator","dict_reverseitemiterator","odict_iterator","itertools.zip_longest","itertools.pairwise"].contains n && vs[0]? == some (rawInt _))=true then _ else _) Q E s
           rw[if_neg (by intro h;rw[hn,Bool.false_and]at h;cases h)]
           exact wY hQ))
noncomputable def U8 (K:PySem.W.Frag)(a:Addr):It :=
 ⟨λi H=>∃xs x,iF K H a xs/\xs[i]? = some x,λi H x H'=>H'=H/\∀xs,iF K H a xs->xs[i]? = some x,λi H=>∃xs,iF K H a xs/\xs.length<=i⟩
noncomputable def U9 (K:PySem.W.Frag)(a:Addr):It :=
 ⟨λi H=>∃xs x,jf K H a xs/\xs[i]? = some x,λi H x H'=>H'=H/\∀xs,jf K H a xs->xs[i]? = some x,λi H=>∃xs,jf K H a xs/\xs.length<=i⟩
noncomputable def Ro (lo:Int)(n:Nat):It:=⟨λi _=>i<n,λi H x H'=>H'=H/\x=.int (lo+i),λi _=>n<=i⟩
theorem C0 {P:Program}{w:World}{K:PySem.W.Frag}{tg:Expr}(a it:Addr):Turn P w K tg (U8 K a) [it] it (λi h=>h.IsListIter it a i) where
 mem:=by simp
 obj:=λi h st b hb=>by
  have e:b=it:=by simpa using hb
  subst e;obtain⟨o,e,c,d⟩:=st;exact⟨o,e,λv z=>by rw[d]at z;cases z⟩
 keep:=λi h h' st k=>st.at λo e=>k it (by simp) o e
 item:=by
  intro X hP hw hK hc i ae s σ H E I hf st hg;subst hP hw hK;obtain⟨xs,x,hq,hx⟩:=hg;obtain⟨its,rv,p,hz⟩:=I.list hq;obtain⟨u,hu,ru⟩:=rv.get hx;obtain⟨f0,f1,f2,f3,f4,f5⟩:=hf it (by simp);refine wpAny_pyNext_list_item st p.isList (x:=u) (by simpa using hu) λh' jS sb=>?_;have I1:Inv X ae σ H { s with heap:=h' }:=I.turned (t':=s.toks) (λb o hb e=>(sb.2 b hb).trans e) f0 f1 f3 f4 f5;obtain⟨o,e,c,d⟩:=id jS;exact⟨u,rfl,sC (s:={ s with heap:=h' }) e c d (by decide) ⟨x,H,I1,ru,⟨rfl,λys hy=>by rw[I.list_inj hy hq];exact hx⟩,jS,λb hb=>(hf b hb).1⟩⟩
 done:=by
  intro X hP hw hK hc i ae s σ H E I hf st hg;subst hP hw hK;obtain⟨xs,hq,hx⟩:=hg;obtain⟨its,rv,p,hz⟩:=I.list hq;obtain⟨f0,f1,f2,f3,f4,f5⟩:=hf it (by simp);have hl:=rv.length;exact wpAny_pyNext_list_end (I.ok.hd hc) st p.isList (by simp;omega) λh' eb=>⟨rfl,I.turned (t':=s.toks) (λb o hb e=>eb b o hb e) f0 f1 f3 f4 f5⟩
 self:=λ_ _ _ _ _ st h=>wpAny_pyIter_listiter st h
theorem z8 {P:Program}{w:World}{K:PySem.W.Frag}{tg:Expr}(a it:Addr):Turn P w K tg (U9 K a) [it] it (λi h=>h.IsTupleIter it a i) where
 mem:=by simp
 obj:=λi h st b hb=>by
  have e:b=it:=by simpa using hb
  subst e;obtain⟨o,e,c,d⟩:=st;exact⟨o,e,λv z=>by rw[d]at z;cases z⟩
 keep:=λi h h' st k=>st.at λo e=>k it (by simp) o e
 item:=by
  intro X hP hw hK hc i ae s σ H E I hf st hg;subst hP hw hK;obtain⟨xs,x,hq,hx⟩:=hg;obtain⟨its,rv,p,hz⟩:=I.tuple hq;obtain⟨u,hu,ru⟩:=rv.get hx;obtain⟨f0,f1,f2,f3,f4,f5⟩:=hf it (by simp);refine wpAny_pyNext_tuple_item st (show s.heap.IsTuple a its.toArray from p) (x:=u) (by simpa using hu) λh' jS sb=>?_;have I1:Inv X ae σ H { s with heap:=h' }:=I.turned (t':=s.toks) (λb o hb e=>(sb.2 b hb).trans e) f0 f1 f3 f4 f5;obtain⟨o,e,c,d⟩:=id jS;exact⟨u,rfl,sC (s:={ s with heap:=h' }) e c d (by decide) ⟨x,H,I1,ru,⟨rfl,λys hy=>by rw[I.tuple_inj hy hq];exact hx⟩,jS,λb hb=>(hf b hb).1⟩⟩
 done:=by
  intro X hP hw hK hc i ae s σ H E I hf st hg;subst hP hw hK;obtain⟨xs,hq,hx⟩:=hg;obtain⟨its,rv,p,hz⟩:=I.tuple hq;obtain⟨f0,f1,f2,f3,f4,f5⟩:=hf it (by simp);have hl:=rv.length;exact wpAny_pyNext_tuple_end (I.ok.hd hc) st (show s.heap.IsTuple a its.toArray from p) (by simp;omega) λh' eb=>⟨rfl,I.turned (t':=s.toks) (λb o hb e=>eb b o hb e) f0 f1 f3 f4 f5⟩
 self:=λ_ _ _ _ _ st h=>wpAny_pyIter_tupleiter st h
theorem z9 {P:Program}{w:World}{K:PySem.W.Frag}{tg:Expr}(it:Addr)(lo:Int)(n:Nat):Turn P w K tg (Ro lo n) [it] it (λi h=>IsRangeIter h it (lo+(i:Nat)*1) ((n:Int) - (i:Nat)) 1) where
 mem:=by simp
 obj:=λi h st b hb=>by
  have e:b=it:=by simpa using hb
  subst e;exact⟨_,st,λv z=>by
   have z':Data.fields _=Data.cell v:=z;cases z'⟩
 keep:=λi h h' st k=>k it (by simp) _ st
 item:=by
  intro X hP hw hK hc i ae s σ H E I hf st hg;subst hP hw hK;obtain⟨f0,f1,f2,f3,f4,f5⟩:=hf it (by simp);have W:=Walks.range (prog:=X.prog) (w:=X.w) (I.ok.hd hc) it lo 1 n;refine W.item i s _ _ hg st λv h' tk hv jS kk=>?_;obtain⟨t,rfl⟩:=hv;have I1:Inv X ae σ H { s with heap:=h',toks:=tk }:=I.turned (λb o hb e=>kk b o (by simpa using hb) e) f0 f1 f3 f4 f5;refine⟨_,rfl,sC (s:={ s with heap:=h',toks:=tk }) (n:="range_iterator") jS rfl rfl (by decide) ⟨.int (lo+i),H,I1,⟨t,?_⟩,⟨rfl,rfl⟩,jS,λb hb=>(hf b hb).1⟩⟩;rw[Int.mul_one]
 done:=by
  intro X hP hw hK hc i ae s σ H E I hf st hg;subst hP hw hK;obtain⟨f0,f1,f2,f3,f4,f5⟩:=hf it (by simp);exact wpAny_pyNext_range_end (I.ok.hd hc) st (by have:n<=i:=hg;omega) λh' eb=>⟨rfl,I.turned (t':=s.toks) (λb o hb e=>eb b o hb e) f0 f1 f3 f4 f5⟩
 self:=λ_ _ _ _ _ st h=>wpAny_pyIter_rangeiter st h
section
variable {X:Cx}{tg:Expr}
def OP (K:PySem.W.Frag)(tl:TE):TI:=λσ H R=>tl σ H λx H1=>∃a,x=.ref a/\(∃xs,iF K H1 a xs)/\R (U8 K a) H1
def Sj (K:PySem.W.Frag)(tl:TE):TI:=λσ H R=>tl σ H λx H1=>∃a,x=.ref a/\(∃xs,jf K H1 a xs)/\R (U9 K a) H1
theorem Hw {l:Expr}{tl:TE}(hl:PE X l tl):PI X tg l (OP X.K tl):=by
 intro ae s σ H R I h;refine cV (hl ae s σ H _ I h) λv s1 ⟨x,H1,I1,r1,q1⟩=>?_;obtain⟨a,e,⟨xs,hq⟩,q⟩:=q1;subst e;cases r1
 obtain⟨its,rv,p,hz⟩:=I1.list hq;refine wpAny_pyIter_list p.isList ?_;refine⟨s1.heap.objs.size,[s1.heap.objs.size],_,_,H1,rfl,I1.kept (t':=s1.toks) λb o e=>vZ _ e,C0 a _,⟨_,vY _ rfl,rfl,rfl⟩,λb hb=>?_,q⟩;have e:b=s1.heap.objs.size:=by simpa using hb
 subst e;exact I1.fpOk (vT _) (I1.hok.fresh (vT _))
theorem LC {l:Expr}{tl:TE}(hl:PE X l tl):PI X tg l (Sj X.K tl):=by
 intro ae s σ H R I h;refine cV (hl ae s σ H _ I h) λv s1 ⟨x,H1,I1,r1,q1⟩=>?_;obtain⟨a,e,⟨xs,hq⟩,q⟩:=q1;subst e;cases r1
 obtain⟨its,rv,p,hz⟩:=I1.tuple hq;refine wpAny_pyIter_tuple (show s1.heap.IsTuple a its.toArray from p) ?_;refine⟨s1.heap.objs.size,[s1.heap.objs.size],_,_,H1,rfl,I1.kept (t':=s1.toks) λb o e=>vZ _ e,z8 a _,⟨_,vY _ rfl,rfl,rfl⟩,λb hb=>?_,q⟩;have e:b=s1.heap.objs.size:=by simpa using hb
 subst e;exact I1.fpOk (vT _) (I1.hok.fresh (vT _))
theorem Ed {ae:List (Addr×Obj)}{σ:St}{H:Hp}{s:Shared}{R:It->Hp->Prop}{E:Value->Shared->Prop}{lo hi:Int}{t u v:Tok}{tk:Nat}(I:Inv X ae σ H s)(h1 : -(2 ^ 62)<=lo)(h2:lo<2 ^ 62)(h3 : -(2 ^ 62)<=hi)(h4:hi<2 ^ 62)
  (q:R (Ro lo (hi - lo).toNat) H):wpAny (model X.prog X.w) X.A (pyIter (.ref s.heap.objs.size)) (U7 X ae σ tg R) E { s with heap:=s.heap.push { cls:=.type "range",data:=.fields #[.int lo t,.int hi u,.int 1 v] },toks:=tk }:=by
 refine wpAny_pyIter_range (IsRange.new ..) (small_one h1 h2 h3 h4) ?_;have I1:Inv X ae σ H { s with heap:=s.heap.push { cls:=.type "range",data:=.fields #[.int lo t,.int hi u,.int 1 v] },toks:=tk }:=I.kept λb o e=>vZ _ e;refine⟨(s.heap.push { cls:=.type "range",data:=.fields #[.int lo t,.int hi u,.int 1 v] }).objs.size,[(s.heap.push { cls:=.type "range",data:=.fields #[.int lo t,.int hi u,.int 1 v] }).objs.size],_,_,H,rfl,
  I1.kept (t':=tk) λb o e=>vZ _ e,z9 _ lo (hi - lo).toNat,?_,λb hb=>?_,q⟩
 ·have e1:lo+((0:Nat):Int)*1=lo:=by simp
  have e2:(((hi - lo).toNat:Nat):Int) - ((0:Nat):Int)=Builtin.Range.rangeSize lo hi 1:=by rw[rangeSize_one];split<;>omega
  show IsRangeIter _ _ (lo+((0:Nat):Int)*1) ((((hi - lo).toNat:Nat):Int) - ((0:Nat):Int)) 1;rw[e1,e2];exact vY _ rfl
 ·have e:b=(s.heap.push { cls:=.type "range",data:=.fields #[.int lo t,.int hi u,.int 1 v] }).objs.size:=by simpa using hb
  subst e;exact I1.fpOk (vT _) (I1.hok.fresh (vT _))
def OQ (ta:TA):TI:=λσ H R=>ta σ H λvs H1=>∃j:Int,vs=[.int j]/\-(2 ^ 62)<=j/\j<2 ^ 62/\R (Ro 0 j.toNat) H1
theorem C1 {a:Expr}{ta:TA}{p pos:Pos}(hg:Gl X "range")(hm:X.mg "range" = none)(ha:PA X [a] ta)(hs:starEach [a] X.env=[(false,eval a X.env)]:=by rfl):PI X tg (.Call (.Name "range" p) [a] [] pos) (OQ ta):=by
 intro ae s σ H R I h;refine Call_ (lB I hg hm boot_range (PyProof.Rows.callWith_type1 (cV (ha pos ae s σ H _ I h) λus s1 ⟨vs,H1,I1,r1,q1⟩=>?_) hs rfl));obtain⟨j,e,q1,q2,q⟩:=q1;subst e;cases r1 with
 |cons r rr=>
  cases rr
  obtain⟨t,rfl⟩:=r;exact call_range_1 (Ed I1 (by omega) (by omega) q1 q2 (by simpa using q))
def LD (wi:TI)(g:TG)(tb:TS):TS:=λD σ H=>wi σ H λJ H1=>∃W:Nat->Nat->St->Hp->Prop,(∃m,W 0 m σ H1)/\∀i m σ H,W i m σ H ->
 (J.stop i H/\D.nx σ H)∨(J.go i H/\∃N:St->Hp->Prop,(∀σ' H',N σ' H'->∃m',m'<m/\W (i+1) m' σ' H')/\∀x H',J.yld i H x H'->g x σ H' λσ2 H2=>tb { D with nx:=N,ct:=N,bk:=D.nx } σ2 H2)
def nq (fp:List Addr)(h:Heap):List (Addr×Obj):=fp.filterMap λb=>(h.get? b).map λo=>(b,o)
theorem j0 {fp:List Addr}{h:Heap}{b:Addr}{o:Obj}(hb:b∈fp)(e:h.get? b=some o):(b,o)∈nq fp h:=List.mem_filterMap.mpr ⟨b,hb,by rw[e];rfl⟩
theorem C2 (hp:p∈nq fp h):p.1∈fp/\h.get? p.1=some p.2:=by
 obtain⟨b,hb,e⟩:=List.mem_filterMap.mp hp;cases q:h.get? b with
 |none=>rw[q]at e;cases e
 |some o=>
  rw[q]at e;have e':(b,o)=p:=vK e;subst e';exact⟨hb,q⟩
theorem Inv.pinned (I:Inv X ae σ H s)(hf:∀b∈fp,np X ae H b)(ho:∀b∈fp,∃o,s.heap.get? b=some o/\∀v,o.data≠.cell v):Inv X (ae++nq fp s.heap) σ H s :=
 I.pins_of λp hp=>(List.mem_append.mp hp).elim (λz=>I.pin p (mY _ z)) λz=>by
  obtain⟨hb,e⟩:=C2 z;obtain⟨f0,f1,f2,_⟩:=hf p.1 hb;obtain⟨o,e',d⟩:=ho p.1 hb;rw[e]at e';cases e';exact⟨e,f0,f1,f2,d⟩
theorem Inv.unpinned (I:Inv X (ae++pl) σ H s):Inv X ae σ H s:=I.pins_of λp hp=>I.pin p (mY _ (List.mem_append_left _ hp))
theorem Ee {df:Expr}{body:List Stmt}{wi:TI}{g:TG}{tb:TS}{pos:Pos}(hp:PassesOwn (model X.prog X.w) X.A X.env X.xe)(hc:X.calm=true)(hi:PI X tg df wi)(hg:PG X tg g)(hb:uq X body tb)
  (hs:∀x,foldedSetIterable df X.env x=pure x:=by intro _;rfl):PS X (.For tg df body [] pos) (LD wi g tb):=by
 intro ae s σ H D I h;refine wpAny_For (cV (hi ae s σ H _ I h) λv s1 h1=>cV h1 λR9 s2 h2=>?_) hs;obtain⟨it,fp,tn,J,H2,e,I2,T,Jy,f2,W,⟨m0,w0⟩,Jz⟩:=h2;subst e
 -- what stays true of the iterator's objects through the loop
 have Ni:∀ {H':Hp},(∀b∈fp,H' b=none)->∀b∈fp,np X ae H' b:=λhn b hb=>⟨hn b hb,(f2 b hb).2⟩;refine codeAny_forLoop_any (λn s'=>∃i σ' H',Inv X ae σ' H' s'/\tn i s'.heap/\(∀b∈fp,H' b=none)/\W i n σ' H') ?_ m0 ⟨0,σ,H2,I2,Jy,λb hb=>(f2 b hb).1,w0⟩;rintro n s3 ⟨i,σ3,H3,I3,Vj,Vk,w3⟩;rcases Jz i n σ3 H3 w3 with⟨stop,qn⟩|⟨go,N,hN,step⟩
 ·refine wpAny_passesOwn hp (cV (T.done X rfl rfl rfl hc i ae s3 σ3 H3 X.xe I3 (Ni Vk) Vj stop) λr s4 ⟨hr,I4⟩=>?_);subst hr;exact wpAny_execs_nil ⟨σ3,H3,I4,qn⟩
 ·refine wpAny_passesOwn hp (cV (T.item X rfl rfl rfl hc i ae s3 σ3 H3 X.xe I3 (Ni Vk) Vj go) λr s4 ⟨u,hr,h4⟩=>?_);subst hr;refine wpAny_passesOwn hp (cV h4 λ_ s5 ⟨x,H5,I5,r5,y5,Ti,Tj⟩=>?_);have Tk:=I5.pinned (Ni Tj) (T.obj _ _ Ti);refine wpAny_passesOwn hp (cV (hg _ s5 σ3 H5 x u _ Tk r5 (step x H5 y5)) λ_ s6 ⟨σ6,H6,I6,q6⟩=>?_);refine wpAny_passesOwn hp (cV (hb _ s6 σ6 H6 _ I6 q6) λf s7 q7=>?_);have again:∀ {σ7:St}{H7:Hp},Inv X (ae++nq fp s5.heap) σ7 H7 s7->N σ7 H7->∃m,m<n/\∃i σ' H',Inv X ae σ' H' s7/\tn i s7.heap/\(∀b∈fp,H' b=none)/\W i m σ' H':=λ{σ7 H7} I7 n7=>by
   obtain⟨m',hm,w7⟩:=hN σ7 H7 n7;refine⟨m',hm,i+1,σ7,H7,I7.unpinned,T.keep _ _ _ Ti λb hb o e=>(I7.pin (b,o) (mY _ (mY _ (j0 hb e)))).1,λb hb=>?_,w7⟩;obtain⟨o,e,d⟩:=T.obj _ _ Ti b hb;exact(I7.pin (b,o) (mY _ (mY _ (j0 hb e)))).2.1
  cases f with
  |next=>obtain⟨σ7,H7,I7,n7⟩:=q7;exact again I7 n7
  |cont=>obtain⟨σ7,H7,I7,n7⟩:=q7;exact again I7 n7
  |brk=>obtain⟨σ7,H7,I7,q7⟩:=q7;exact⟨σ7,H7,I7.unpinned,q7⟩
  |ret v=>obtain⟨x7,σ7,H7,I7,r7,q7⟩:=q7;exact⟨x7,σ7,H7,I7.unpinned,r7,q7⟩
end
abbrev R2:=V->V->Hp->VK->Prop
def dJ (X:Cx)(f:Value->Value->Sem Value)(r:R2):Prop :=
 ∀(ae:List (Addr×Obj))(s:Shared)(σ:St)(H:Hp)(x y:V)(v u:Value)(Q:VK),Inv X ae σ H s->ba x v->ba y u->r x y H Q ->
  wpAny (model X.prog X.w) X.A (f v u) (EP X ae σ Q) X.xe s
def OR (X:Cx)(f:Value->Sem Value)(r:V->Hp->VK->Prop):Prop :=
 ∀(ae:List (Addr×Obj))(s:Shared)(σ:St)(H:Hp)(x:V)(v:Value)(Q:VK),Inv X ae σ H s->ba x v->r x H Q ->
  wpAny (model X.prog X.w) X.A (f v) (EP X ae σ Q) X.xe s
def bP (X:Cx)(f:Value)(r:List V->Hp->VK->Prop):Prop :=
 ∀(ae:List (Addr×Obj))(s:Shared)(σ:St)(H:Hp)(xs:List V)(us:List Value)(Q:VK),Inv X ae σ H s->aW xs us->r xs H Q ->
  wpAny (model X.prog X.w) X.A (call f us) (EP X ae σ Q) X.xe s
def Rp (r:R2)(ta tb:TE):TE:=λσ H Q=>ta σ H λx H1=>tb σ H1 λy H2=>r x y H2 Q
def Wt (r:V->Hp->VK->Prop)(ta:TE):TE:=λσ H Q=>ta σ H λx H1=>r x H1 Q
def rI (C:Int->Int->Prop)(g:Int->Int->V):R2:=λx y H Q=>∃i j,x=.int i/\y=.int j/\C i j/\Q (g i j) H
def GZ (g:Int->Int->V):R2:=λx y H Q=>∃i j,x=.int i/\y=.int j/\Q (g i j) H
def rU (g:Int->V):V->Hp->VK->Prop:=λx H Q=>∃i,x=.int i/\Q (g i) H
section
variable {X:Cx}{a b c:Expr}{ta tb tc:TE}{pos:Pos}
theorem LF (ha:PE X a ta)(hb:PE X b tb){ae:List (Addr×Obj)}{s:Shared}{σ:St}{H:Hp}{R:V->V->Hp->Prop}(I:Inv X ae σ H s)
  (h:ta σ H λx H1=>tb σ H1 λy H2=>R x y H2) {Q:Value->Shared->Prop}{f:Value->Value->Sem Value}
  (hf:∀v u s2 x y H2,Inv X ae σ H2 s2->ba x v->ba y u->R x y H2->wpAny (model X.prog X.w) X.A (f v u) Q X.xe s2):
  wpAny (model X.prog X.w) X.A (eval a X.env) (λv s₁=>wpAny (model X.prog X.w) X.A (eval b X.env) (λu s₂=>wpAny (model X.prog X.w) X.A (f v u) Q X.xe s₂) X.xe s₁) X.xe s:=by
 refine cV (ha ae s σ H _ I h) λv s1 ⟨x,H1,I1,r1,q1⟩=>?_;refine cV (hb ae s1 σ H1 _ I1 q1) λu s2 ⟨y,H2,I2,r2,q2⟩=>?_;exact hf v u s2 x y H2 I2 r1 r2 q2
theorem JY {op:Operator}{r:R2}(ho:dJ X (binaryOp op) r)(ha:PE X a ta)(hb:PE X b tb):PE X (.BinOp a op b pos) (Rp r ta tb):=by
 intro ae s σ H Q I h;exact wpAny_BinOp (LF ha hb I h λv u s2 x y H2 I2 rx ry q=>ho ae s2 σ H2 x y v u Q I2 rx ry q)
theorem OS {op:UnaryOp}{r:V->Hp->VK->Prop}(ho:OR X (unaryOp op) r)(ha:PE X a ta):PE X (.UnaryOp op a pos) (Wt r ta):=by
 intro ae s σ H Q I h;exact UnaryOp_ (cV (ha ae s σ H _ I h) λv s1 ⟨x,H1,I1,r1,q1⟩=>ho ae s1 σ H1 x v Q I1 r1 q1)
theorem Sk {f:Value->Value->Sem Value}{C:Int->Int->Prop}{g:Int->Int->Int}
  (rule:∀(i j:Int)(t u:Tok)(s:Shared)(Q:Value->Shared->Prop)(E:Value->Shared->Prop),C i j->Q (.int (g i j) s.toks) { s with toks:=s.toks+1 }->wpAny (model X.prog X.w) X.A (f (.int i t) (.int j u)) Q E s):
  dJ X f (rI C λi j=>.int (g i j)):=by
 intro ae s σ H x y v u Q I rx ry h;obtain⟨i,j,rfl,rfl,hc,q⟩:=h;obtain⟨t,rfl⟩:=rx;obtain⟨t',rfl⟩:=ry;exact rule i j t t' s _ _ hc ⟨.int (g i j),H,I.tok _,⟨_,rfl⟩,q⟩
theorem LG {f:Value->Value->Sem Value}{g:Int->Int->Int}
  (rule:∀(i j:Int)(t u:Tok)(s:Shared)(Q:Value->Shared->Prop)(E:Value->Shared->Prop),Q (.int (g i j) s.toks) { s with toks:=s.toks+1 }->wpAny (model X.prog X.w) X.A (f (.int i t) (.int j u)) Q E s):
  dJ X f (GZ λi j=>.int (g i j)):=by
 intro ae s σ H x y v u Q I rx ry h;obtain⟨i,j,rfl,rfl,q⟩:=h;obtain⟨t,rfl⟩:=rx;obtain⟨t',rfl⟩:=ry;exact rule i j t t' s _ _ ⟨.int (g i j),H,I.tok _,⟨_,rfl⟩,q⟩
theorem Hx {f:Value->Value->Sem Value}{g:Int->Int->Bool}
  (rule:∀(i j:Int)(t u:Tok)(s:Shared)(Q:Value->Shared->Prop)(E:Value->Shared->Prop),Q (.bool (g i j)) s->wpAny (model X.prog X.w) X.A (f (.int i t) (.int j u)) Q E s):
  dJ X f (GZ λi j=>.bl (g i j)):=by
 intro ae s σ H x y v u Q I rx ry h;obtain⟨i,j,rfl,rfl,q⟩:=h;obtain⟨t,rfl⟩:=rx;obtain⟨t',rfl⟩:=ry;exact rule i j t t' s _ _ ⟨.bl (g i j),H,I,rfl,q⟩
def OT (i j:Int):Prop:=0<j/\j<1073741824
def Hy (i j:Int):Prop:=(-(2 ^ 64)<i/\i<2 ^ 64)∨(-(2 ^ 64)<j/\j<2 ^ 64)
theorem Hy.ok (h:Hy i j):IntMulOk i j:=by
 rcases h with⟨h1,h2⟩|⟨h1,h2⟩
 ·exact .of_left (intBits_le_64 h1 h2)
 ·exact .of_right (intBits_le_64 h1 h2)
theorem LH:dJ X (binaryOp .Add) (GZ λi j=>.int (i+j)):=LG λ_ _ _ _ _ _ _ q=>add_int q
theorem LI:dJ X (binaryOp .Sub) (GZ λi j=>.int (i - j)):=LG λ_ _ _ _ _ _ _ q=>sub_int q
theorem LJ:dJ X (binaryOp .Mult) (rI Hy λi j=>.int (i*j)):=Sk λ_ _ _ _ _ _ _ hc q=>mul_int q hc.ok
theorem Hz:dJ X (binaryOp .FloorDiv) (rI OT λi j=>.int (i / j)):=Sk λi j _ _ _ _ _ hc q=>by
 have h1:(0:Int)<j:=hc.1;have h2:j<1073741824:=hc.2;exact floordiv_int (by omega) (by rw[Int.fdiv_eq_ediv_of_nonneg i (by omega)];exact q) (.inl (PyProof.noPylong_small (by omega)))
theorem LK:dJ X (binaryOp .Mod) (rI (λ_ j=>0<j) λi j=>.int (i % j)):=Sk λi j _ _ _ _ _ hc q=>by
 have h1:(0:Int)<j:=hc;exact mod_int' (by omega) (by rw[Int.fmod_eq_emod_of_nonneg i (by omega)];exact q)
theorem LL:dJ X (binaryOp .BitAnd) (GZ λi j=>.int (Builtin.bitAnd i j)):=LG λ_ _ _ _ _ _ _ q=>and_int q
theorem Wu {f:Value->Sem Value}{g:Int->Int}
  (rule:∀(i:Int)(t:Tok)(s:Shared)(Q:Value->Shared->Prop)(E:Value->Shared->Prop),Q (.int (g i) s.toks) { s with toks:=s.toks+1 }->wpAny (model X.prog X.w) X.A (f (.int i t)) Q E s):
  OR X f (rU λi=>.int (g i)):=by
 intro ae s σ H x v Q I rx h;obtain⟨i,rfl,q⟩:=h;obtain⟨t,rfl⟩:=rx;exact rule i t s _ _ ⟨.int (g i),H,I.tok _,⟨_,rfl⟩,q⟩
theorem LM:OR X (unaryOp .USub) (rU λi=>.int (-i)):=Wu λ_ _ _ _ _ q=>neg_int q
theorem C3:dJ X (binaryOp .Add) (λx y H Q=>∃i k,x=.int i/\y=.bl k/\Q (.int (i+b2i k)) H):=by
 intro ae s σ H x y v u Q I rx ry h;obtain⟨i,k,rfl,rfl,q⟩:=h;obtain⟨t,rfl⟩:=rx;cases ry
 exact add_int_bool ⟨.int (i+b2i k),H,I.tok _,⟨_,rfl⟩,q⟩
end
section
variable {X:Cx}{a b c:Expr}{ta tb tc:TE}{pos:Pos}
theorem OU:dJ X (compareOp .Lt) (GZ λi j=>.bl (decide (i<j))):=Hx λ_ _ _ _ _ _ _ q=>lt_int q
theorem OV:dJ X (compareOp .LtE) (GZ λi j=>.bl (decide (i<=j))):=Hx λ_ _ _ _ _ _ _ q=>le_int q
theorem OW:dJ X (compareOp .Gt) (GZ λi j=>.bl (decide (j<i))):=Hx λ_ _ _ _ _ _ _ q=>gt_int q
theorem OX:dJ X (compareOp .GtE) (GZ λi j=>.bl (decide (j<=i))):=Hx λ_ _ _ _ _ _ _ q=>ge_int q
theorem dJ.or (h:dJ X f r)(h':dJ X f r'):dJ X f (λx y H Q=>r x y H Q∨r' x y H Q):=by
 intro ae s σ H x y v u Q I rx ry q;rcases q with q|q
 ·exact h ae s σ H x y v u Q I rx ry q
 ·exact h' ae s σ H x y v u Q I rx ry q
theorem Sl (b:Expr)(h:op≠.In:=by decide)(h2:op≠.NotIn:=by decide):behindInMarks op b=false:=by
 have e1:(op == CmpOp.In)=false:=by cases op<;>first|rfl|exact absurd rfl h
 have e2:(op == CmpOp.NotIn)=false:=by cases op<;>first|rfl|exact absurd rfl h2
 cases b<;>simp[behindInMarks,e1,e2]
theorem HA (ho:dJ X (compareOp op) r)(ha:PE X a ta)(hb:PE X b tb)(hm:behindInMarks op b=false):PE X (.Compare a [op] [b] pos) (Rp r ta tb):=by
 intro ae s σ H Q I h;exact wpAny_Compare1 (LF ha hb I h λv u s2 x y H2 I2 rx ry q=>ho ae s2 σ H2 x y v u Q I2 rx ry q) hm
def OY (t:TE):TT:=λσ H Q=>t σ H λx H'=>∃k,x=.bl k/\Q k H'
theorem HB {op:CmpOp}{r:R2}(ho:dJ X (compareOp op) r)(ha:PE X a ta)(hb:PE X b tb)(hm:behindInMarks op b=false):PT X (.Compare a [op] [b] pos) (OY (Rp r ta tb)):=by
 intro ae s σ H Q I h;refine wpAny_isTrue_Compare1 (cV (ha ae s σ H _ I h) λv s1 ⟨x,H1,I1,r1,q1⟩=>cV (hb ae s1 σ H1 _ I1 q1) λu s2 ⟨y,H2,I2,r2,q2⟩=>
  cV (ho ae s2 σ H2 x y v u _ I2 r1 r2 q2) λc s3 ⟨z,H3,I3,r3,k,e,q3⟩=>?_) hm
 subst e;cases r3
 exact wpAny_truthy_bool ⟨H3,I3,q3⟩
def Ef (r r':R2)(ta tb tc:TE):TE:=λσ H Q=>ta σ H λx H1=>tb σ H1 λy H2=>r x y H2 λz H3=>∃k,z=.bl k /\
 (if k=true then tc σ H3 λw' H4=>r' y w' H4 Q else Q (.bl false) H3)
theorem Eg {op Oi:CmpOp}{r r':R2}(ho:dJ X (compareOp op) r)(wD:dJ X (compareOp Oi) r')(ha:PE X a ta)(hb:PE X b tb)(hc:PE X c tc)
  (hm:lastMarks [op,Oi] [b,c]=false:=by with_unfolding_all rfl):PE X (.Compare a [op,Oi] [b,c] pos) (Ef r r' ta tb tc):=by
 intro ae s σ H Q I h;refine Compare_chain (cV (ha ae s σ H _ I h) λv s1 ⟨x,H1,I1,r1,q1⟩=>chain_link (cV (hb ae s1 σ H1 _ I1 q1) λu s2 ⟨y,H2,I2,r2,q2⟩=>
  cV (ho ae s2 σ H2 x y v u _ I2 r1 r2 q2) λd s3 ⟨z,H3,I3,r3,k,e,q3⟩=>?_)) hm
 subst e;cases r3
 refine wpAny_truthy_bool ?_;cases k with
 |false=>exact ite_ff ⟨.bl false,H3,I3,rfl,q3⟩
 |true=>exact ite_tt (chain_last (cV (hc ae s3 σ H3 _ I3 q3) λw' s4 ⟨z',H4,I4,r4,q4⟩=>wD ae s4 σ H4 y z' u w' Q I4 r2 r4 q4))
theorem nu:(sizeLine:Nat)<2 ^ 63:=by rw[sizeLine_eq];decide
theorem zA:dJ X (binaryOp .Add) (λx y H Q=>∃i j,x=.str i/\y=.str j/\i.length+j.length<=sizeLine/\Q (.str (i++j)) H):=by
 intro ae s σ H x y v u Q I rx ry h;obtain⟨i,j,rfl,rfl,hz,q⟩:=h;obtain⟨t,rfl⟩:=rx;obtain⟨t',rfl⟩:=ry;exact add_str (λt' tk=>⟨.str (i++j),H,I.tok _,⟨_,rfl⟩,q⟩) hz
theorem gM (r:aW [x] us):∃u,us=[u]/\ba x u:=by
 cases r with
 |cons r1 r2=>cases r2;exact⟨_,rfl,r1⟩
theorem Eh (r:aW [x,y] us):∃u w',us=[u,w']/\ba x u/\ba y w':=by
 cases r with
 |cons r1 r2=>
  cases r2 with
  |cons r3 r4=>cases r4;exact⟨_,_,rfl,r1,r3⟩
theorem C4 (hc:X.calm=true):bP X (.builtin "max") (λxs H Q=>∃i j,xs=[.int i,.int j]/\Q (.int (if j > i then j else i)) H):=by
 intro ae s σ H xs us Q I r h;obtain⟨i,j,rfl,q⟩:=h;obtain⟨u,w',rfl,⟨t,rfl⟩,⟨t',rfl⟩⟩:=Eh r;refine max_two_ints (I.ok.hd hc) λh' tk k=>⟨_,H,I.kept k,?_,q⟩;by_cases hj:j > i
 ·rw[if_pos hj,if_pos hj];exact⟨_,rfl⟩
 ·rw[if_neg hj,if_neg hj];exact⟨_,rfl⟩
theorem C5 (hc:X.calm=true):bP X (.builtin "min") (λxs H Q=>∃i j,xs=[.int i,.int j]/\Q (.int (if j<i then j else i)) H):=by
 intro ae s σ H xs us Q I r h;obtain⟨i,j,rfl,q⟩:=h;obtain⟨u,w',rfl,⟨t,rfl⟩,⟨t',rfl⟩⟩:=Eh r;refine min_two_ints (I.ok.hd hc) λh' tk k=>⟨_,H,I.kept k,?_,q⟩;by_cases hj:j<i
 ·rw[if_pos hj,if_pos hj];exact⟨_,rfl⟩
 ·rw[if_neg hj,if_neg hj];exact⟨_,rfl⟩
theorem C6:bP X (.type "int") (λxs H Q=>(∃i,xs=[.int i]/\Q (.int i) H)∨∃k,xs=[.bl k]/\Q (.int (if k then 1 else 0)) H):=by
 intro ae s σ H xs us Q I r h;rcases h with⟨i,rfl,q⟩|⟨k,rfl,q⟩
 ·obtain⟨u,rfl,t,rfl⟩:=gM r;exact call_int_int ⟨.int i,H,I,⟨_,rfl⟩,q⟩
 ·obtain⟨u,rfl,r1⟩:=gM r;cases r1
  exact call_int_bool ⟨.int (if k then 1 else 0),H,I.tok _,⟨_,rfl⟩,q⟩
end
structure J0 (h:Heap)(x dx C:Addr)(mA:Str->Option Value):Prop where
 obj:h.get? x=some (PySem.W.instObj C dx)
 ns:h.Ns1 dx mA
 ne:dx≠x
theorem C7 {h:Heap}{dx:Addr}{mA:Str->Option Value}(n:h.Ns1 dx mA):∃od,h.get? dx=some od/\∀name,PySem.W.lookIn name od=some (mA name):=by
 obtain⟨o,es,ep,ho,hd,hk,_,hm⟩:=n;refine⟨o,ho,λname=>?_⟩;have e:=hm name;unfold nsFind findBy at e;rw[←Array.find?_toList]at e;unfold PySem.W.lookIn;rw[hd];dsimp only;split
 ·rename_i y q;rw[q]at e;exact congrArg some e
 ·rename_i q;rw[q]at e;have a:es.toList.any (·.refKey)=false:=by
   rw[List.any_eq_false];intro y hy;obtain⟨z,t,DB⟩:=hk y (Array.mem_toList_iff.mp hy);simp[DictEntry.refKey,DB]
  have a':¬es.toList.any (·.refKey)=true:=by rw[a];exact uX
  rw[if_neg a'];exact congrArg some e
theorem J0.look (I:J0 h x dx C mA):∃od,PySem.W.InstAt h x (PySem.W.instObj C dx) C (some od)/\∀name,PySem.W.lookIn name od=some (mA name) :=
 let ⟨od,ho,hl⟩:=C7 I.ns
 ⟨od,⟨I.obj,rfl,rfl,ho⟩,hl⟩
section
variable {prog:Program}{w:World}{A:Around}{E:Value->Shared->Prop}{s:Shared}{K:PySem.W.Frag}{x dx C f:Addr}{mA:Str->Option Value}{name:Str}{v:Value}
theorem Ei (X:K.In s.heap)(I:J0 s.heap x dx C mA)(hg:PySem.W.plainGet K C name=true)
  (hf:PySem.W.findIn K (.ref C) name=some (some (.ref f))) (ht:PySem.W.isFn K (.ref f)=true) (hv:mA name=none) (h:Q (.ref f,[.ref x]) s):
  wpAny (model prog w) A (getMethod (.ref x) name pl) Q E s:=by
 obtain⟨od,J,hl⟩:=I.look;exact PySem.W.method_fn X J (PySem.W.plainGet_of hg).1 (PySem.W.plainGet_of hg).2 hf (beq_iff_eq.mp ht) (by show(PySem.W.lookIn name od).map (·.isSome)=some false;rw[hl,hv];rfl) h
theorem OZ (X:K.In s.heap)(hm:PySem.W.makesIn K C=true)
  (hi:PySem.W.findIn K (.ref C) "__init__" = some (some (.ref f))) (hf:PySem.W.typeIn K (.ref f)=some (.type "function"))
  (h:codeAny (model prog w) (A.under (.builtin "type.__call__" ⟨.ref C::vs,kw⟩)) (.call (.ref f) ⟨.ref (s.heap.objs.size+1)::vs,kw⟩) (PySem.W.InitBack (s.heap.objs.size+1) R)
   { s with heap:=(s.heap.push PySem.W.emptyDict).push (PySem.W.instObj C s.heap.objs.size) }):
  codeAny (model prog w) A (.call (.ref C) ⟨vs,kw⟩) R s:=by
 obtain⟨hh,g,d,t,os⟩:=s;exact PySem.W.make_core (PySem.W.makes_of X hm) (PySem.W.looks_findIn X hi) (λself=>PySem.W.bind_fn X self hf) (.inl rfl) h
end
theorem oP.none_of (r:oP none o):o=none:=by
 cases o with
 |none=>rfl
 |some u=>exact(show False from r).elim
section
variable {P:Program}{w:World}{H H':Hp}{h h':Heap}{a C dx:Addr}{fs Xh:List (Str×V)}
theorem AL (hok:lb P w H h)(e:H a=some (.ins C dx fs)):∃mA,J0 h a dx C mA/\(∀f,oP (fs.lookup f) (mA f))/\PySem.Within mA (fs.map (·.1))/\fs.length<=1000/\H dx=some (.own a):=by
 obtain⟨d,z,ne,ob,mA,n,r,q⟩:=(show bO P w H h a (.ins C dx fs)from hok a _ e);exact⟨mA,⟨ob,n,ne⟩,r,q,z,d⟩
end
structure Cls (K:PySem.W.Frag)(C:Addr):Prop where
 pg:PySem.W.plainGet K C Str.empty=true
 hd:PySem.W.hasDictIn K C=true
 po:PySem.W.plainOver K C=true
 sa:PySem.W.findIn K (.ref C) "__setattr__" = some (some (.builtin "object.__setattr__"))
theorem Cls.get {K:PySem.W.Frag}{C:Addr}(c:Cls K C)(f:Str):PySem.W.plainGet K C f=true:=c.pg
def LN (K:PySem.W.Frag)(C:Addr)(f:Str):Prop:=PySem.W.findIn K (.ref C) f=some none
structure Meth (K:PySem.W.Frag)(C:Addr)(m:Str)(f:Addr):Prop where
 at_:PySem.W.findIn K (.ref C) m=some (some (.ref f))
 fn:PySem.W.isFn K (.ref f)=true
 kp:PySem.W.keepIn K (.ref f)=true
section
variable {X:Cx}{ae:List (Addr×Obj)}{σ:St}{H:Hp}{s:Shared}{a C dx:Addr}{fs:List (Str×V)}{f:Str}{v:V}{A:Around}{E:Value->Shared->Prop}
theorem zB {m:Str}{g:Addr}{pl:Sem Bool}{Q:Value×List Value->Shared->Prop}(I:Inv X ae σ H s)(e:H a=some (.ins C dx fs))(c:Cls X.K C)(k:Meth X.K C m g)(l:fs.lookup m=none)
  (h:Q (.ref g,[.ref a]) s):wpAny (model X.prog X.w) A (getMethod (.ref a) m pl) Q E s:=by
 obtain⟨mA,O,r,_,_,_⟩:=AL I.hok e;have hn:mA m=none:=oP.none_of (by rw[←l];exact r m);exact Ei I.kIn O (c.get m) k.at_ k.fn hn h
theorem Inv.made (I:Inv X ae σ H s):Inv X ae σ (upd (upd H s.heap.objs.size (.own (s.heap.objs.size+1))) (s.heap.objs.size+1) (.ins C s.heap.objs.size []))
  { s with heap:=(s.heap.push PySem.W.emptyDict).push (PySem.W.instObj C s.heap.objs.size) }:=by
 have e1:(s.heap.push PySem.W.emptyDict).get? s.heap.objs.size=some PySem.W.emptyDict:=vY s.heap rfl;have e2:((s.heap.push PySem.W.emptyDict).push (PySem.W.instObj C s.heap.objs.size)).get? (s.heap.objs.size+1)=some (PySem.W.instObj C s.heap.objs.size):=by
  have:=vY (s.heap.push PySem.W.emptyDict) (o:=PySem.W.instObj C s.heap.objs.size) rfl;rwa [Heap.size_push]at this
 have e3:(s.heap.push PySem.W.emptyDict).Ns s.heap.objs.size (λ_=>none):=⟨PySem.W.emptyDict,#[],_,e1,rfl,(λe he=>absurd he (by simp)),λ_=>rfl⟩;have I1:=I.laid (a:=s.heap.objs.size) (o:=.own (s.heap.objs.size+1)) (h':=s.heap.push PySem.W.emptyDict) (t':=s.toks) (λb u q=>vZ _ q) (vT _) ⟨_,e1⟩;refine I1.laid (a:=s.heap.objs.size+1) (o:=.ins C s.heap.objs.size []) (t':=s.toks) (λb u q=>vZ _ q) (Nat.le_of_eq (Heap.size_push _ _)) ?_;have ne:s.heap.objs.size≠s.heap.objs.size+1:=vS (Nat.lt_succ_self _);refine⟨by rw[aI ne,aE],uN _,ne,e2,λ_=>none,(Heap.Ns1.of_empty e3).at λo q=>vZ _ q,λ_=>True.intro,λy hy=>absurd rfl hy⟩
end
def Wv (K:PySem.W.Frag)(ta:TE)(f:Str):TE:=λσ H Q=>ta σ H λx H1=>∃a C dx fs v,x=.ref a/\H1 a=some (.ins C dx fs)/\Cls K C/\LN K C f/\fs.lookup f=some v/\Q v H1
section
variable {X:Cx}{o e value:Expr}{f:Str}{pos zh DC:Pos}{ta tv:TE}
theorem JZ {pl:Sem Bool}{m:Str}{dC:Pos}{args:List Expr}{ae:List (Addr×Obj)}{s:Shared}{σ:St}{H:Hp}{Q:Value->Shared->Prop}{te:TE}(he:PE X e te)(I:Inv X ae σ H s)
  (h:te σ H λx H1=>∃a C dx fs g,x=.ref a/\H1 a=some (.ins C dx fs)/\Cls X.K C/\Meth X.K C m g/\fs.lookup m=none /\
   ∀s1,Inv X ae σ H1 s1->wpAny (model X.prog X.w) X.A (callWith pos (.ref g) [.ref a] (backTo pos (starEach args X.env)) (backToKw pos (keywordEach [] X.env))) Q X.xe s1)
  (ht:eval (.Call (.Attribute e m dC) args [] pos) X.env=(do
   let ov ←eval e X.env
   standAt dC.atName
   let (f,first) ←holding [ov] (getMethod ov m pl)
   callWith pos f first (backTo pos (starEach args X.env)) (backToKw pos (keywordEach [] X.env)))):
  wpAny (model X.prog X.w) X.A (eval (.Call (.Attribute e m dC) args [] pos) X.env) Q X.xe s:=by
 refine PySem.W.methodCall_KW (pl:=pl) (cV (he ae s σ H _ I h) λu s1 ⟨x,H1,I1,rx,a,C,dx,fs,g,ex,ea,c,k,l,q⟩=>?_) ht;subst ex;obtain rfl:u=Value.ref a:=rx;exact zB I1 ea c k l (q s1 I1)
end
section
variable {X:Cx}{ae:List (Addr×Obj)}{σ:St}{H:Hp}{s:Shared}{A:Around}{E:Value->Shared->Prop}{Q:Value->Shared->Prop}{c:Value}{b:Bool}
inductive TyOf (K:PySem.W.Frag)(H:Hp):V->Value->Prop where
 |non:TyOf K H .non (.type "NoneType")
 |bl (x:Bool):TyOf K H (.bl x) (.type "bool")
 |int (i:Int):TyOf K H (.int i) (.type "int")
 |str (x:Str):TyOf K H (.str x) (.type "str")
 |flt (x:UInt64):TyOf K H (.flt x) (.type "float")
 |lst {a:Addr}{xs:List V}(e:H a=some (.lst xs)):TyOf K H (.ref a) (.type "list")
 |frz {a:Addr}{o:Obj}{xs:List V}(e:H a=some (.frz o (.lst xs))):TyOf K H (.ref a) (.type "list")
 |tup {a:Addr}{xs:List V}(e:H a=some (.tup xs)):TyOf K H (.ref a) (.type "tuple")
 |dK {a:Addr}{aL:List (c8×V)}{ob:Obj}(e:H a=some (.dK aL ob)):TyOf K H (.ref a) (.type "dict")
 |dT {a:Addr}{aL:List (List c8×V)}(e:H a=some (.dT aL)):TyOf K H (.ref a) (.type "dict")
 |ins {a C dx:Addr}{fs:List (Str×V)}(e:H a=some (.ins C dx fs)) (cl:Cls K C) (ha:PySem.W.findIn K (.ref C) "__class__" = some (some (.builtin "object.__class__")))
   (hn:PySem.W.specialIn K (.builtin "object.__class__") "__get__" = some (some (.builtin "getset_descriptor.__get__"))) (Vl:PySem.W.takesIn K (.builtin "object.__class__")=some true)
   (hm:PySem.W.mroIn K C (.type "object")=some true):TyOf K H (.ref a) (.ref C)
theorem gU (I:Inv X ae σ H s)(rx:ba x u)(ty:TyOf X.K H x t)(e:PySem.W.kitOne X.K t c=some b)(h:∀tk,Q (.bool b) { s with toks:=tk }):
  wpAny (model X.prog X.w) A (call (.builtin "isinstance") [u,c]) Q E s:=by
 cases ty with
 |non=>cases (show u=Value.none from rx);exact PySem.W.kia_one PySem.W.kitx_none I.kIn True.intro e (λz=>nomatch z) h
 |bl y=>cases (show u=Value.bool y from rx);exact PySem.W.kia_one PySem.W.kitx_bool I.kIn True.intro e (λz=>nomatch z) h
 |int i=>obtain⟨t,q⟩:=(show ∃t,u=Value.int i t from rx);cases q;exact PySem.W.kia_one PySem.W.kitx_int I.kIn True.intro e (λz=>nomatch z) h
 |str y=>obtain⟨t,q⟩:=(show ∃t,u=Value.str y t from rx);cases q;exact PySem.W.kia_one PySem.W.kitx_str I.kIn True.intro e (λz=>nomatch z) h
 |flt y=>obtain⟨t,q⟩:=(show ∃t,u=Value.float y t from rx);cases q;exact PySem.W.kia_one PySem.W.kitx_float I.kIn True.intro e (λz=>nomatch z) h
 |@lst a xs ea=>
  cases (show u=Value.ref a from rx)
  obtain⟨_,_,n,_,h1⟩:=(show bO X.prog X.w H s.heap a (.lst xs)from I.hok a _ ea);exact PySem.W.kia_one PySem.W.kitx_list I.kIn ⟨_,h1,rfl⟩ e (λz=>nomatch z) h
 |@frz a ob xs ea=>
  cases (show u=Value.ref a from rx)
  obtain⟨_,_,_,n,_,h1⟩:=(show bO X.prog X.w H s.heap a (.frz ob (.lst xs))from I.hok a _ ea);exact PySem.W.kia_one PySem.W.kitx_list I.kIn ⟨_,h1,rfl⟩ e (λz=>nomatch z) h
 |@tup a xs ea=>
  cases (show u=Value.ref a from rx)
  obtain⟨_,_,_,p⟩:=(show bO X.prog X.w H s.heap a (.tup xs)from I.hok a _ ea);obtain⟨o,h1,h2,_⟩:=p;exact PySem.W.kia_one PySem.W.kitx_tuple I.kIn ⟨o,h1,h2⟩ e (λz=>nomatch z) h
 |@dK a aL ob ea=>
  cases (show u=Value.ref a from rx)
  obtain⟨_,_,_,vs,_,p⟩:=(show bO X.prog X.w H s.heap a (.dK aL ob)from I.hok a _ ea);obtain⟨o,es,ep,h1,h2,_⟩:=p;exact PySem.W.kia_one PySem.W.kitx_dict I.kIn ⟨o,h1,h2.1⟩ e (λz=>nomatch z) h
 |@dT a aL ea=>
  cases (show u=Value.ref a from rx)
  obtain⟨_,_,xs,_,o,es,ep,h1,h2,_⟩:=(show bO X.prog X.w H s.heap a (.dT aL)from I.hok a _ ea);exact PySem.W.kia_one PySem.W.kitx_dict I.kIn ⟨o,h1,h2.1⟩ e (λz=>nomatch z) h
 |@ins a C dx fs ea cl ha hn Vl hm=>
  cases (show u=Value.ref a from rx)
  obtain⟨mA,O,_⟩:=AL I.hok ea;obtain⟨od,J,_⟩:=O.look;exact PySem.W.kia_one (PySem.W.kitx_own (cl.get _) cl.hd ha hn Vl hm) I.kIn J e (λz=>nomatch z) h
end
structure eV (k:Nat)(A:Around):Prop where
 hd:A.handled=none
 dp:A.depth+3*k+5<recursionLimit
 un:A.units+16*k+200<cLine
theorem eV.mono (r:eV k A)(h:j<=k):eV j A:=⟨r.hd,by have:=r.dp;omega,by have:=r.un;omega⟩
theorem eV.deeper (r:eV (k+1) A)(env:Env):eV k (A.deeper env) :=
 ⟨r.hd,by have:=r.dp;show A.depth+1+3*k+5<_;omega,by have:=r.un;show A.units+3+16*k+200<_;omega⟩
theorem eV.in1 (r:eV (k+1) A):eV k A.in1 :=
 ⟨r.hd,by have:=r.dp;show A.depth+3*k+5<_;omega,by have:=r.un;show A.units+1+16*k+200<_;omega⟩
theorem eV.depth (r:eV k A):A.depth<recursionLimit:=by have:=r.dp;omega
def Pa:TA:=λ_ H Q=>Q [] H
def Ka (ta:TE)(tr:TA):TA:=λσ H Q=>ta σ H λx H1=>tr σ H1 λxs H2=>Q (x::xs) H2
section
variable {X:Cx}{e:Expr}{es:List Expr}{te:TE}{t:TA}{pos:Pos}
theorem jX:PA X [] Pa:=λ_ _ _ _ H Q I h=>Calls.spliced_nil ⟨[],H,I,.nil,h⟩
theorem iI (ha:PE X e te)(hr:PA X es t)(hs:starEach (e::es) X.env=(false,eval e X.env)::starEach es X.env:=by rfl):PA X (e::es) (Ka te t):=by
 intro pos ae s σ H Q I h;rw[hs];show wpAny _ _ (spliced ((false,eval e X.env)::backTo pos (starEach es X.env))) _ _ s;refine Calls.spliced_cons (cV (ha ae s σ H _ I h) λu s1 ⟨x,H1,I1,r1,q1⟩=>?_);exact cV (hr pos ae s1 σ H1 _ I1 q1) λus s2 ⟨xs,H2,I2,r2,q2⟩=>⟨x::xs,H2,I2,.cons r1 r2,q2⟩
def Pb (t:TA):TE:=λσ H Q=>t σ H λxs H1=>xs.length<=sizeLine/\∀p,H1 p=none->Q (.ref p) (upd H1 p (.tup xs))
def Sm (t:TA):TE:=λσ H Q=>t σ H λxs H1=>xs.length<=sizeLine/\∀p,H1 p=none->Q (.ref p) (upd H1 p (.lst xs))
theorem zC {x1}(h:PA X es t):PE X (.Tuple es x1 pos) (Pb t):=by
 intro ae s σ H Q I hq;refine wpAny_Tuple_spliced (cV (h pos ae s σ H _ I hq) λus s1 ⟨xs,H1,I1,r,z,q⟩=>⟨by rw[←r.length];exact z,?_⟩);have hf:H1 s1.heap.objs.size=none:=I1.hok.fresh (vT _);refine⟨.ref s1.heap.objs.size,upd H1 s1.heap.objs.size (.tup xs),I1.laid (t':=s1.toks) (λb u e=>vZ _ e) (vT _) ?_,rfl,q _ hf⟩;exact⟨z,us,r,⟨_,vY _ rfl,rfl,_,rfl⟩⟩
theorem LO (h:PA X es t):PE X (.List es pos) (Sm t):=by
 intro ae s σ H Q I hq;refine wpAny_List_spliced (cV (h pos ae s σ H _ I hq) λus s1 ⟨xs,H1,I1,r,z,q⟩=>⟨by rw[←r.length];exact z,?_⟩);have hf:H1 s1.heap.objs.size=none:=I1.hok.fresh (vT _);refine⟨.ref s1.heap.objs.size,upd H1 s1.heap.objs.size (.lst xs),I1.laid (t':=s1.toks) (λb u e=>vZ _ e) (vT _) ?_,rfl,q _ hf⟩;exact⟨z,us,0,r,vY _ rfl⟩
end
abbrev Sp:=List V->Hp->VK->XK->Prop
abbrev Kb:=List Env->Hp->Shared->XK->Value->Shared->Prop
structure Env0 (P:Program)(w:World)(K:PySem.W.Frag)(mg:Str->Option Value)(base:Heap)(A:Around)(outer:List Env)(s:Shared)(H:Hp):Prop where
 frames:A.frames=some outer
 mod:Mod K mg base
 bs:∀b o,base.get? b=some o->s.heap.get? b=some o/\H b=none
 bsz:base.objs.size<=s.heap.objs.size
 funs:s.heap.FunFrames base outer
 frf:∀b∈Cz outer,H b=none
 hok:lb P w H s.heap
 bare:AllBare s.gens
def CE (outer:List Env)(P:Program)(w:World)(H:Hp)(s:Shared)(Q:VK)(u:Value)(s':Shared):Prop :=
 ∃v H',s'.os=s.os/\AllBare s'.gens/\Un (Cz outer) [] H H' s.heap s'.heap/\lb P w H' s'.heap/\ba v u/\Q v H'
def CR (CX:Kb)(outer:List Env)(P:Program)(w:World)(H:Hp)(s:Shared)(Q:VK)(E:XK)(r:Result)(s':Shared):Prop :=
 match r with
 |.ok (.ret u)=>CE outer P w H s Q u s'
 |.ok _=>False
 |.error e=>CX outer H s E e s'
structure sw (P:Program)(w:World)(K:PySem.W.Frag)(mg:Str->Option Value)(base:Heap)(CX:Kb)(k:Nat)(f:Addr)(fd:FuncData)(ps:List Str)(sp:Sp):Prop where
 len:∀vs H Q E,sp vs H Q E->vs.length=ps.length
 run:∀(A:Around)(outer:List Env)(s:Shared)(H:Hp)(args:Args)(us:List Value)(vs:List V)(Q:VK)(E:XK),eV k A->Env0 P w K mg base A outer s H->BindsTo s fd args (ps.zip us)->aW vs us->sp vs H Q E ->
  codeAny (model P w) A (.call (.ref f) args) (CR CX outer P w H s Q E) s
section
variable {X:Cx}{ae:List (Addr×Obj)}{σ:St}{H:Hp}{s s':Shared}
theorem Inv.env0 (I:Inv X ae σ H s):Env0 X.prog X.w X.K X.mg X.base X.A X.stack s H :=
 ⟨I.ok.frames,I.ok.mod,I.bs,vR I.ok.bsz I.sz,I.stack,I.stkFree,I.hok,I.bare⟩
theorem Inv.after (I:Inv X ae σ H s)(h:CE X.stack X.prog X.w H s Q u s'):EP X ae σ Q u s':=by
 obtain⟨v,H',os,bare,un,hok,r,q⟩:=h;obtain⟨hh,g,d,t,Tl⟩:=s';obtain rfl:Tl=s.os:=os;exact⟨v,H',I.call (h':=hh) (g':=g) (d':=d) (t':=t) (ch:=[]) un hok bare (λb z=>absurd z (by simp)),r,q⟩
end
def Pc (sp:Sp)(DD:List V)(E:XK)(t:TA):TE:=λσ H Q=>t σ H λvs H1=>sp (vs++DD) H1 Q E
def UA (C:Addr)(m:Str)(sp:Sp)(DD:List V)(E:XK)(ta:TE)(t:TA):TE:=λσ H Q=>ta σ H λx H1=>∃a dx fs,x=.ref a/\H1 a=some (.ins C dx fs)/\fs.lookup m=none /\
 t σ H1 λvs H2=>sp (x::(vs++DD)) H2 Q E
def UB (C:Addr)(sp:Sp)(DD:List V)(E:XK)(t:TA):TE:=λσ H Q=>t σ H λvs H1=>∀x dx,H1 x=none->H1 dx=none->dx≠x ->
 sp (.ref x::(vs++DD)) (upd (upd H1 dx (.own x)) x (.ins C dx [])) (λv H2=>v=.non/\Q (.ref x) H2) E
def sD (K:PySem.W.Frag)(fd:FuncData)(ps:List Str)(ds:List Value):Prop :=
 ∀(s:Shared)(us:List Value),K.In s.heap->(us++ds).length=ps.length->BindsTo s fd ⟨us,[]⟩ (ps.zip (us++ds))
theorem sD.all {K:PySem.W.Frag}{fd:FuncData}{ps:List Str}(h:∀us:List Value,us.length=ps.length->bindArgs fd ⟨us,[]⟩=pure (ps.zip us)):sD K fd ps []:=λs us _ hl=>by
 rw[uQ]at hl ⊢;exact .of_eq (h us hl)
def zD (CX:Kb)(X:Cx)(E:XK):Prop:=∀(ae:List (Addr×Obj))(σ:St)(H:Hp)(s:Shared)(e:Value)(s':Shared),Inv X ae σ H s->CX X.stack H s E e s'->X.xe e s'
section
variable {X:Cx}{CX:Kb}{k:Nat}{f C:Addr}{fd:FuncData}{ps:List Str}{sp:Sp}{DD:List V}{ds:List Value}{E:XK}{x m:Str}{p pos dC:Pos}{e o:Expr}{es:List Expr}{ta:TE}{t:TA}
theorem LP {ae:List (Addr×Obj)}{σ:St}{H:Hp}{s:Shared}{Q:VK}{us:List Value}{vs:List V}(F:sw X.prog X.w X.K X.mg X.base CX k f fd ps sp)(hr:eV k X.A)(hb:sD X.K fd ps ds)(hd:aW DD ds)(hx:zD CX X E)
  (I:Inv X ae σ H s) (r:aW vs us) (h:sp (vs++DD) H Q E):wpAny (model X.prog X.w) X.A (call (.ref f) us) (EP X ae σ Q) X.xe s:=by
 have r2:aW (vs++DD) (us++ds):=r.append hd;have hl:(us++ds).length=ps.length:=by rw[←r2.length];exact F.len _ _ _ _ h
 refine wpAny_call (codeAny_mono (F.run X.A X.stack s H ⟨us,[]⟩ (us++ds) (vs++DD) Q E hr I.env0 (hb s us I.kIn hl) r2 h) λr s' hq=>?_);cases r with
 |error e=>exact hx ae σ H s e s' I hq
 |ok fl=>
  cases fl with
  |ret u=>exact I.after hq
  |next=>exact False.elim hq
  |brk=>exact False.elim hq
  |cont=>exact False.elim hq
theorem HC (F:sw X.prog X.w X.K X.mg X.base CX k f fd ps sp)(hr:eV k X.A)(hg:Gl X x)(hm:X.mg x=some (.ref f))(hk:PySem.W.keepIn X.K (.ref f)=true)(hb:sD X.K fd ps ds)(hd:aW DD ds)(hx:zD CX X E)
  (ha:PA X (e::es) t) (rQ:(x == ("__debug__" : Str))=false:=by decide) (he:starEach (e::es) X.env=(false,eval e X.env)::starEach es X.env:=by rfl) (lz:(backTo pos (starEach es X.env)).any (·.1)=false:=by rfl):
  PE X (.Call (.Name x p) (e::es) [] pos) (Pc sp DD E t):=by
 intro ae s σ H Q I h;refine wpAny_Call_Name_kw (ur I hg hm ?_ rQ);refine PySem.W.callWith_K (h₀:=X.base) I.ok.mod.kin hk (cV (ha pos ae s σ H _ I h) λus s1 ⟨vs,H1,I1,r,q⟩=>⟨I1.kIn,?_⟩) he lz;exact LP F hr hb hd hx I1 r q
end
structure FnScope (N P:List Str)(sc:Scope):Prop where
 kind:sc.kind=.function
 co:sc.isCoroutine=false
 gen:sc.isGenerator=false
 nd:N.Nodup
 pre:N.take P.length=P
 par:∀x∈P,sc.names.lookup x=some .local∨sc.names.lookup x=some .cell
 nofree:∀y∈sc.names,y.2≠.free
theorem sE {kindOf:Str->Option NameKind}{x:Str}:∀ {binds:List (Str×Value)}{m:Str->Option Value},(∀v,(x,v)∉binds)->bindL kindOf binds m x=m x
 |[],_,_=>rfl
 | (n,v)::r,m,h=>by
  unfold bindL;rw[sE λw hw=>h w (mZ _ hw)];split
  ·have:x≠n:=by rintro rfl;exact h v mX
   simp[this]
  ·rfl
theorem sG {kindOf:Str->Option NameKind}{x:Str}:∀ {binds:List (Str×Value)}{m:Str->Option Value},(∀v,(x,v)∉binds)->bindC kindOf binds m x=m x
 |[],_,_=>rfl
 | (n,v)::r,m,h=>by
  unfold bindC;rw[sG λw hw=>h w (mZ _ hw)];split
  ·rfl
  ·have:x≠n:=by rintro rfl;exact h v mX
   simp[this]
theorem sI {kindOf:Str->Option NameKind}{x:Str}{v:Value}:∀ {P:List Str}{vs:List Value}{i:Nat}{m:Str->Option Value},P.Nodup->P[i]? = some x->vs[i]? = some v->kindOf x=some .local ->
  bindL kindOf (P.zip vs) m x=some v
 |[],_,_,_,_,h,_,_=>by simp at h
 |_::_,[],_,_,_,_,h,_=>by simp at h
 |p::P,w::vs,0,m,nd,h1,h2,hk=>by
  simp at h1 h2;subst h1;subst h2;show bindL kindOf ((p,w)::P.zip vs) m p=_;unfold bindL;rw[sE λv hv=>(List.nodup_cons.mp nd).1 (List.of_mem_zip hv).1,if_pos hk];simp
 |p::P,w::vs,i+1,m,nd,h1,h2,hk=>by
  show bindL kindOf ((p,w)::P.zip vs) m x=_;unfold bindL;exact sI (i:=i) (List.nodup_cons.mp nd).2 (by simpa using h1) (by simpa using h2) hk
theorem sJ {kindOf:Str->Option NameKind}{x:Str}{v:Value}:∀ {P:List Str}{vs:List Value}{i:Nat}{m:Str->Option Value},P.Nodup->P[i]? = some x->vs[i]? = some v->kindOf x≠some .local ->
  bindC kindOf (P.zip vs) m x=some v
 |[],_,_,_,_,h,_,_=>by simp at h
 |_::_,[],_,_,_,_,h,_=>by simp at h
 |p::P,w::vs,0,m,nd,h1,h2,hk=>by
  simp at h1 h2;subst h1;subst h2;show bindC kindOf ((p,w)::P.zip vs) m p=_;unfold bindC;rw[sG λv hv=>(List.nodup_cons.mp nd).1 (List.of_mem_zip hv).1,if_neg hk];simp
 |p::P,w::vs,i+1,m,nd,h1,h2,hk=>by
  show bindC kindOf ((p,w)::P.zip vs) m x=_;unfold bindC;exact sJ (i:=i) (List.nodup_cons.mp nd).2 (by simpa using h1) (by simpa using h2) hk
noncomputable def jN (N:List Str)(vs:List V):St:=vs.map some++List.replicate (N.length - vs.length) none
noncomputable def oQ (CX:Kb)(P:Program)(w:World)(K:PySem.W.Frag)(mg:Str->Option Value)(base:Heap)(N:List Str)(qual:Str)(scope:Scope)(f:Addr)(cd:Value)(A:Around)(outer:List Env)(s:Shared)(H:Hp)(E:XK):Cx where
 prog:=P
 w:=w
 K:=K
 mg:=mg
 base:=base
 A:=A.deeper (envOfC qual scope s.heap.objs.size f cd)
 N:=N
 s₀:=s
 H₀:=H
 env:=envOfC qual scope s.heap.objs.size f cd
 outer:=outer
 stack:=envOfC qual scope s.heap.objs.size f cd::outer
 ex:=[]
 calm:=true
 fn:=λ_=>true
 pn:=[]
 xe:=λe s'=>wpAny (model P w) (A.deeper (envOfC qual scope s.heap.objs.size f cd)) (leaving (envOfC qual scope s.heap.objs.size f cd) e) (λ_ sx=>CX outer H s E e sx) (λe' sx=>CX outer H s E e' sx) s'
theorem wV {sc:Scope}{n:Nat}{x:Str}(h:sc.names.lookup x=some .cell):∃c,(cellsFrom n sc.names []).lookup x=some c:=by
 have q:=PySem.W.cellsFrom_some sc.names n [] (.inl h);exact uU q
theorem C8 {CX:Kb}{P:Program}{w:World}{K:PySem.W.Frag}{mg:Str->Option Value}{base:Heap}{N ps:List Str}{qual:Str}{scope:Scope}{f:Addr}{cd:Value}{A:Around}{outer:List Env}{s s1:Shared}{H:Hp}{E:XK}{us:List Value}{vs:List V}
  (S:FnScope N ps scope) (hd:A.handled=none) (e0:Env0 P w K mg base A outer s H) (hl:vs.length=ps.length) (r:aW vs us)
  (x:InCallC s s.heap.objs.size (bindL (envOfC qual scope s.heap.objs.size f cd).kindOf (ps.zip us) λ_=>none) (cellsFrom (s.heap.objs.size+1) scope.names []) (bindC (envOfC qual scope s.heap.objs.size f cd).kindOf (ps.zip us) λ_=>none) s1):
  Inv (oQ CX P w K mg base N qual scope f cd A outer s H E) [] (jN N vs) H s1:=by
 have lz:ps.length<=N.length:=by have:=congrArg List.length S.pre;rw[List.length_take]at this;omega
 obtain⟨h1,tk,rfl,hk⟩:=x.done;have J5:∀b:Addr,b∉(oQ CX P w K mg base N qual scope f cd A outer s H E).ex:=λb z=>absurd (show b∈([]:List Addr)from z) (by simp);refine⟨⟨e0.mod,S.kind,rfl,rfl,vT _,λy z c h1 h2=>?_,λy hy=>?_,λy c _ h=>?_,λ_=>hd,Around.frames_deeper e0.frames,.inr ⟨rfl,rfl⟩,λb z=>absurd z (J5 b),e0.bs,e0.bsz,λb _ _=>J5 b,λb z=>absurd z (J5 b),e0.funs,e0.frf⟩,
  rfl,e0.bare,Un.kept hk,⟨_,x.toInCall.ns,λi y v h1 h2 h3=>?_⟩,λy c h=>⟨_,x.cell y c h⟩,e0.hok.fresh (vT _),λy c h=>?_,λp hp=>absurd (show p∈([]:List (Addr×Obj))from hp) (by simp),e0.hok.kept hk,?_⟩
 ·exact name_of_addr x.apart (PySem.mem_of_lookup h1) (PySem.mem_of_lookup h2)
 ·have hy:scope.names.lookup y=some .cell∨scope.names.lookup y=some .free:=hy;rcases hy with hy|hy
  ·exact wV hy
  ·exact absurd rfl (S.nofree _ (PySem.mem_of_lookup hy))
 ·exact Nat.le_of_lt (x.above y c (PySem.mem_of_lookup h))
 ·have hi:i<vs.length:=by
   unfold jN at h2;by_cases hi:i<vs.length
   ·exact hi
   ·rw[List.getElem?_append_right (by simpa using hi)]at h2;rw[List.getElem?_replicate]at h2;split at h2<;>cases h2
  have ha:vs[i]? = some v:=by
   unfold jN at h2;rw[List.getElem?_append_left (by simpa using hi),vA]at h2;cases e:vs[i]? with
   |none=>rw[e]at h2;cases h2
   |some a=>rw[e]at h2;cases h2;rfl
  obtain⟨u,hu,rv⟩:=r.get ha;have hp:ps[i]? = some y:=by
   rw[←S.pre,List.getElem?_take_of_lt (by omega)];exact h1
  have Vm:ps.Nodup:=by rw[←S.pre];exact S.nd.sublist (List.take_sublist _ _)
  refine⟨u,rv,?_⟩;rcases S.par y (vL hp)with k|k
  ·exact .inl ⟨k,sI Vm hp hu k⟩
  ·obtain⟨c,e⟩:=wV (n:=s.heap.objs.size+1) k;refine .inr ⟨.inl k,c,e,?_⟩;have q:=x.cell y c e;rw[sJ Vm hp hu (by show scope.names.lookup y≠_;rw[k];decide)]at q;exact q
 ·exact e0.hok.fresh (Nat.le_of_lt (x.above y c (PySem.mem_of_lookup h)))
 ·unfold jN;show _=N.length;rw[uZ,vI,List.length_replicate];omega
theorem Kc {CX:Kb}{P:Program}{w:World}{K:PySem.W.Frag}{mg:Str->Option Value}{base:Heap}{k:Nat}{f:Addr}{name qual:Str}{params:Arguments}{body:List Stmt}{scope:Scope}{dV kV doc pm eK ct oc:Value}{an od:Option Addr}
  {oK:Array (Option Value)}{N ps:List Str}{sp:Sp}(lk:K.lookup f=some ⟨oc,od,.func (PySem.W.fnOf name qual params body scope dV kV doc pm an eK ct),oK⟩) (jz:PySem.W.codeIn K eK qual=true) (S:FnScope N ps scope)
  (len:∀vs H Q E,sp vs H Q E->vs.length=ps.length)
  (GD:∀(A:Around)(outer:List Env)(s:Shared)(H:Hp)(vs:List V)(Q:VK)(E:XK),eV k (A.deeper (envOfC qual scope s.heap.objs.size f eK))->sp vs H Q E ->
   ∃t,uq (oQ CX P w K mg base N qual scope f eK A outer s H E) body t/\t { nx:=λ_ H'=>Q .non H',rt:=Q } (jN N vs) H):
  sw P w K mg base CX (k+1) f (PySem.W.fnOf name qual params body scope dV kV doc pm an eK ct) ps sp:=by
 refine⟨len,λA outer s H args us vs Q E hr e0 hb r Oj=>?_⟩;have hl:=len _ _ _ _ Oj;have KX:K.In s.heap:=e0.mod.kin.keeps λb o e=>(e0.bs b o e).1;have Xi:s.heap.NoLimit:=e0.mod.nolimit.keeps λb o e=>(e0.bs b o e).1;have Qi:∀y∈ps.zip us,scope.names.lookup y.1=some .local∨(scope.names.lookup y.1=some .cell/\((cellsFrom (s.heap.objs.size+1) scope.names []).lookup y.1).isSome=true):=λ⟨n,v⟩ hy=>by
  rcases S.par n (List.of_mem_zip hy).1 with q|q
  ·exact .inl q
  ·exact .inr ⟨q,PySem.W.cellsFrom_some _ _ _ (.inl q)⟩
 refine codeAny_call_function hr.depth (KX _ _ lk) rfl S.co S.gen rfl (PySem.W.codeRec_of KX jz) (hb _ _ _ _ ?_);refine wpAny_newFunctionEnv_cells S.kind Qi λenv he s1 x=>?_;subst he;refine⟨Xi.keeps x.toInCall.keep,codeAny_func ?_⟩;obtain⟨t,ht,hq⟩:=GD A outer s H vs Q E (hr.deeper _) Oj;have I:Inv (oQ CX P w K mg base N qual scope f eK A outer s H E) [] (jN N vs) H s1:=C8 S hr.hd e0 hl r x;refine wpAny_mono (ht [] s1 (jN N vs) H _ I hq) (λfl s' hs=>?_) λe s' hs=>hs;have lW:∀ {σ':St}{H':Hp}{v:V}{u:Value},Inv (oQ CX P w K mg base N qual scope f eK A outer s H E) [] σ' H' s'->ba v u->Q v H'->CE outer P w H s Q u s' :=
  λ{σ' H' v u} J rv q=>⟨v,H',J.os,J.bare,J.base,J.hok,rv,q⟩
 cases fl with
 |ret u=>
  obtain⟨v,σ',H',J,rv,q⟩:=hs;exact lW J rv q
 |next=>
  obtain⟨σ',H',J,q⟩:=hs;exact lW (v:=V.non) (u:=Value.none) J rfl q
 |brk=>
  obtain⟨_,_,_,q⟩:=hs;exact False.elim q
 |cont=>
  obtain⟨_,_,_,q⟩:=hs;exact False.elim q
section
variable {X:Cx}{x:Str}{p pos:Pos}{e:Expr}{es:List Expr}{t:TA}{id T:String}{r:List V->Hp->VK->Prop}
def UC (r:List V->Hp->VK->Prop)(t:TA):TE:=λσ H Q=>t σ H λvs H1=>r vs H1 Q
theorem wW (hc:bP X (.builtin id) r)(hg:Gl X x)(hm:X.mg x=none)(hv:bootBuiltins x=some (.builtin id))(ha:PA X (e::es) t)(hn:x ≠ "__name__":=by decide)(rQ:(x == ("__debug__" : Str))=false:=by decide)
  (he:starEach (e::es) X.env=(false,eval e X.env)::starEach es X.env:=by rfl) (lz:(backTo pos (starEach es X.env)).any (·.1)=false:=by rfl):PE X (.Call (.Name x p) (e::es) [] pos) (UC r t):=by
 intro ae s σ H Q I h;refine wpAny_Call_Name_kw (lB I hg hm hv ?_ hn rQ);exact PyProof.Rows.callWith_builtin1 (cV (ha pos ae s σ H _ I h) λus s1 ⟨vs,H1,I1,r1,q1⟩=>hc ae s1 σ H1 vs us Q I1 r1 q1) he lz
theorem sK (hc:bP X (.type T) r)(hg:Gl X x)(hm:X.mg x=none)(hv:bootBuiltins x=some (.type T))(ha:PA X (e::es) t)(hn:x ≠ "__name__":=by decide)(rQ:(x == ("__debug__" : Str))=false:=by decide)
  (he:starEach (e::es) X.env=(false,eval e X.env)::starEach es X.env:=by rfl) (lz:(backTo pos (starEach es X.env)).any (·.1)=false:=by rfl):PE X (.Call (.Name x p) (e::es) [] pos) (UC r t):=by
 intro ae s σ H Q I h;refine wpAny_Call_Name_kw (lB I hg hm hv ?_ hn rQ);exact PyProof.Rows.callWith_type1 (cV (ha pos ae s σ H _ I h) λus s1 ⟨vs,H1,I1,r1,q1⟩=>hc ae s1 σ H1 vs us Q I1 r1 q1) he lz
end
end L2
namespace HT
open PySem PyProof.Rows
section
open PySem.SeqAt
open PySem.AutoSeq1 (wpAny_loadPart')
open PySem.MeetsSeq PySem.MeetsSeq2 PySem.MeetsSeq3
end
section
variable {prog:Program}{w:World}{A:Around}{E:Value->Shared->Prop}{s:Shared}
theorem HD (ht:IsTup s.heap t vs.toArray)(hb:IsTup s.heap b ws.toArray)(hv:vs≠[])
  (h1:ws=[]->Q (.ref t) s) (h2:ws≠[]->Q (.ref s.heap.objs.size) { s with heap:=s.heap.push { cls:=.type "tuple",data:=.seq (vs++ws).toArray } })
  (hsz:vs.length+ws.length<=sizeLine):wpAny (model prog w) A (binaryOp .Add (.ref t) (.ref b)) Q E s:=by
 obtain⟨⟨cls,dd,data,sl⟩,ho,hc,n,hd⟩:=id ht;obtain⟨⟨Tn,Nj,data2,RB⟩,J6,wL,n2,Qj⟩:=id hb;simp only at hc hd wL Qj;subst hc hd wL Qj;have e:vs.toArray++ws.toArray=(vs++ws).toArray:=by simp
 by_cases hw:ws=[]
 ·exact concat_meets ⟨_,ho,rfl⟩ ⟨_,J6,rfl⟩ noFill_tuple_add seq_tuple_add PySem.F.slot_tuple_add PySem.F.entry_tuple_add (PySem.F.args_tuple_add_2 _ _)
   (tuple_addW1 t b vs.toArray ws.toArray n n2 dd Nj sl RB (by simpa using hv) (by simp[hw])) ⟨ho,J6,h1 hw⟩
 ·refine concat_meets ⟨_,ho,rfl⟩ ⟨_,J6,rfl⟩ noFill_tuple_add seq_tuple_add PySem.F.slot_tuple_add PySem.F.entry_tuple_add (PySem.F.args_tuple_add_2 _ _)
   (tuple_addW2 t b vs.toArray ws.toArray n n2 dd Nj sl RB (by simpa using hv) (by simpa using hw) (by rw[vH,vH];exact hsz)) ⟨ho,J6,?_⟩
  rw[e];exact h2 hw
noncomputable def eA (n d:Nat):Option Int->Nat
 |none=>d
 |some v=>if v<0 then (v+(n:Int)).toNat else min v.toNat n
theorem LQ (n d:Nat)(hd:d<=n)(o:Option Int):eA n d o<=n:=by
 cases o with
 |none=>exact hd
 |some v=>
  show(if v<0 then (v+(n:Int)).toNat else min v.toNat n)<=n;by_cases hv:v<0
  ·rw[if_pos hv];omega
  ·rw[if_neg hv];exact Nat.min_le_right _ _
theorem AM (v:Int)(n d:Nat):(if v<0 then max (v+(n:Int)) 0 else min v (n:Int))=((eA n d (some v):Nat):Int):=by
 show(if v<0 then max (v+(n:Int)) 0 else min v (n:Int))=(((if v<0 then (v+(n:Int)).toNat else min v.toNat n):Nat):Int);by_cases hv:v<0
 ·simp only[if_pos hv];omega
 ·simp only[if_neg hv];omega
theorem zE (lo hi:Option Int)(n:Nat):Builtin.Slice.sliceAdjust lo hi 1 (n:Int)=(((eA n 0 lo:Nat):Int),((eA n n hi:Nat):Int)):=by
 have h1:¬((1:Int)<0):=by omega
 unfold Builtin.Slice.sliceAdjust;simp only[h1,if_false];refine Prod.ext ?_ ?_
 ·cases lo with
  |none=>rfl
  |some v=>exact AM v n 0
 ·cases hi with
  |none=>rfl
  |some v=>exact AM v n n
theorem zF (i j:Nat):Builtin.Slice.slicePlaces (i:Int) (j:Int) 1=j - i:=by
 unfold Builtin.Slice.slicePlaces;have h1:(1:Int) > 0:=by omega
 simp only[h1,if_true,Int.ediv_one];split<;>omega
theorem p9 (p:IsPart v o)(h:Q o s):wpAny (model prog w) A (Builtin.Slice.slicePartIndex v) Q E s:=by
 cases p with
 |none=>exact slicePart_none h
 |int i t=>exact slicePart_int h
theorem jg {sl:Addr}{vl vu:Value}{lo hi:Option Int}{n:Nat}{Q:Int×Int×Nat->Shared->Prop}(hs:s.heap.IsSliceOf sl vl vu .none)(pl:IsPart vl lo)(pu:IsPart vu hi)
  (h:Q (((eA n 0 lo:Nat):Int),1,eA n n hi - eA n 0 lo) s):wpAny (model prog w) A (Builtin.Slice.sliceApplied (.ref sl) (pure (n:Int))) Q E s:=by
 obtain⟨os,J7,wM,Nk⟩:=id hs;unfold Builtin.Slice.sliceApplied Builtin.Slice.sliceFields;refine wX (wX (wpAny_field J7 Nk (x:=vl) rfl (wX (wpAny_field J7 Nk (x:=vu) rfl (wX (wpAny_field J7 Nk (x:=.none) rfl (wY ?_)))))));refine wX (slicePart_none ?_);show wpAny _ _ (if((1:Int) == 0)=true then _ else _) _ _ s;rw[if_neg (by decide)];refine wX (p9 pl (wX (p9 pu (wX (wY ?_)))));show wpAny _ _ (match Builtin.Slice.sliceAdjust lo hi 1 (n:Int) with|(lo,hi)=>pure (lo,(1:Int),Builtin.Slice.slicePlaces lo hi 1)) _ _ s;rw[zE lo hi n];show wpAny _ _ (pure (((eA n 0 lo:Nat):Int),(1:Int),Builtin.Slice.slicePlaces ((eA n 0 lo:Nat):Int) ((eA n n hi:Nat):Int) 1)) _ _ s;rw[zF];exact wY h
theorem Ej (xs:Array Value)(i k:Nat):((List.range k).filterMap λ(m:Nat)=>xs[((i:Int)+(m:Int)*1).toNat]?).toArray=((xs.toList.drop i).take k).toArray:=by
 have e:(λ(m:Nat)=>xs[((i:Int)+(m:Int)*1).toNat]?)=λm=>xs[i+m]?:=by
  funext m;have:((i:Int)+(m:Int)*1).toNat=i+m:=by omega
  rw[this]
 rw[e];have:=pick_run xs i k;rw[List.filterMap_map]at this;have e2:((λx=>xs[x]?) ∘ λx=>i+x)=λm=>xs[i+m]?:=rfl;rw[e2]at this;rw[this]
theorem lY {t sl:Addr}{items:Array Value}{vl vu:Value}{lo hi:Option Int}{Q:Value->Shared->Prop}(ht:IsTup s.heap t items)(hs:s.heap.IsSliceOf sl vl vu .none)(pl:IsPart vl lo)(pu:IsPart vu hi)
  (hw:¬(eA items.size 0 lo=0/\eA items.size items.size hi=items.size))
  (h:Q (.ref s.heap.objs.size) { s with heap:=s.heap.push { cls:=.type "tuple",data:=.seq ((items.toList.drop (eA items.size 0 lo)).take (eA items.size items.size hi - eA items.size 0 lo)).toArray } })
  (hsz:items.size<=sizeLine):wpAny (model prog w) A (getItem (.ref t) (.ref sl)) Q E s:=by
 have Cp:sizeOk (.seq ((items.toList.drop (eA items.size 0 lo)).take (eA items.size items.size hi - eA items.size 0 lo)).toArray):=by
  show((items.toList.drop (eA items.size 0 lo)).take (eA items.size items.size hi - eA items.size 0 lo)).toArray.size<=sizeLine
  rw[vH,List.length_take,List.length_drop,vG]
  omega
 have hj:eA items.size items.size hi<=items.size:=LQ _ _ (vT _) hi
 obtain⟨os,J7,wM,Nk⟩:=id hs
 have Xj:s.TypeIs (.ref sl) "slice":=⟨os,J7,wM⟩
 unfold getItem
 try with_reducible refine wpAny_holding ?_
 first|refine wX (wY ?_)|skip
 refine wX (wpAny_sequenceKey ht.typeIs (by decide) ?_)
 refine wX (wpAny_callSpecial?_slot (name:=Str.ofString "__getitem__") ht.typeIs PyProof.Rows.slot_tuple_getitem
  (wpAny_call_entry PyProof.Rows.slot_tuple_getitem ht.typeIs entry_tuple_getitem ?_ (args_tuple_getitem _ _)))
 show wpAny _ _ (Builtin.Tuple.tupleItemsOf (.ref t)>>=_) _ _ s
 refine wX (tupleItemsOf_ ht ?_)
 refine wX (wpAny_typeOf Xj ?_)
 rw[if_pos (by decide)]
 refine wX (jg hs pl pu ?_)
 have Ol:¬((((eA items.size 0 lo:Nat):Int) == 0 && (1:Int) == 1 && (eA items.size items.size hi - eA items.size 0 lo) == items.size)=true):=by
  intro q
  rw[vC,vC]at q
  have q1:((eA items.size 0 lo:Nat):Int)=0:=eq_of_beq q.1.1
  have q2:eA items.size items.size hi - eA items.size 0 lo=items.size:=eq_of_beq q.2
  exact hw ⟨by omega,by omega⟩
 show wpAny _ _ (if(((eA items.size 0 lo:Nat):Int) == 0 && (1:Int) == 1 && (eA items.size items.size hi - eA items.size 0 lo) == items.size)=true then _ else _) _ _ s
 rw[if_neg Ol,Ej]
 first
  |exact wX (m:=Builtin.Tuple.tupleExact _) (wpAny_newObj_type (wY ⟨_,rfl,wY h⟩) Cp)
  |exact wX (m:=Builtin.Tuple.tupleExact _) (wpAny_newObj_type (wX (wY (wY ⟨_,rfl,wY h⟩))) Cp)
  |exact wX (wX (m:=Builtin.Tuple.tupleExact _) (wpAny_newObj_type (wY (wY ⟨_,rfl,wY h⟩)) Cp))
  |exact wX (wX (m:=Builtin.Tuple.tupleExact _) (wpAny_newObj_type (wY ⟨_,rfl,wY h⟩) Cp))
end
end HT
namespace L2
open PySem PySem.Spec PyProof.Rows
abbrev TO:=St->Hp->(Option Int->Hp->Prop)->Prop
def PO (X:Cx)(e:Option Expr)(t:TO):Prop :=
 ∀(ae:List (Addr×Obj))(s:Shared)(σ:St)(H:Hp)(Q:Option Int->Hp->Prop),Inv X ae σ H s->t σ H Q ->
  wpAny (model X.prog X.w) X.A (evalPart e X.env) (λu s'=>∃o H',Inv X ae σ H' s'/\IsPart u o/\Q o H') X.xe s
def HE:TO:=λ_ H Q=>Q none H
def Pd (t:TE):TO:=λσ H Q=>t σ H λx H1=>∃i,x=.int i/\Q (some i) H1
section
variable {X:Cx}{e:Expr}{te:TE}{lo hi:Option Expr}{tl th:TO}{pos p2:Pos}
theorem HF:PO X none HE:=by
 intro ae s σ H Q I h;rw[evalPart_none];exact wY ⟨none,H,I,.none,h⟩
theorem HG (h:PE X e te):PO X (some e) (Pd te):=by
 intro ae s σ H Q I hw;rw[evalPart_some];refine cV (h ae s σ H _ I hw) λu s1 ⟨x,H1,I1,r1,q1⟩=>?_;obtain⟨i,rfl,q⟩:=q1;obtain⟨t,rfl⟩:=r1;exact⟨some i,H1,I1,.int i t,q⟩
def DO (X:Cx)(r:V->Option Int->Option Int->Hp->VK->Prop):Prop :=
 ∀(ae:List (Addr×Obj))(s:Shared)(σ:St)(H:Hp)(x:V)(v vl vu:Value)(lo hi:Option Int)(sl:Addr)(Q:VK),Inv X ae σ H s->ba x v->s.heap.IsSliceOf sl vl vu .none->IsPart vl lo->IsPart vu hi->r x lo hi H Q ->
  ∃T id,typeLookup (.type T) "__getitem__" = pure (some (.builtin id))/\s.TypeIs v T/\wpAny (model X.prog X.w) X.A (getItem v (.ref sl)) (EP X ae σ Q) X.xe s
theorem DO.or (h:DO X r)(h':DO X r'):DO X (λx lo hi H Q=>r x lo hi H Q∨r' x lo hi H Q):=by
 intro ae s σ H x v vl vu lo hi sl Q I rx hs pl pu q;rcases q with q|q
 ·exact h ae s σ H x v vl vu lo hi sl Q I rx hs pl pu q
 ·exact h' ae s σ H x v vl vu lo hi sl Q I rx hs pl pu q
def Ww (r:V->Option Int->Option Int->Hp->VK->Prop)(te:TE)(tl th:TO):TE:=λσ H Q=>te σ H λx H1=>tl σ H1 λl H2=>th σ H2 λu H3=>r x l u H3 Q
theorem Ek (hr:DO X r)(he:PE X e te)(hl:PO X lo tl)(hu:PO X hi th):PE X (.Subscript e (.Slice lo hi none p2) pos) (Ww r te tl th):=by
 intro ae s σ H Q I h;refine Subscript_ (cV (he ae s σ H _ I h) λv s1 ⟨x,H1,I1,r1,q1⟩=>?_);refine wpAny_Slice (cV (hl ae s1 σ H1 _ I1 q1) λvl s2 ⟨l,H2,I2,pl,q2⟩=>cV (hu ae s2 σ H2 _ I2 q2) λvu s3 ⟨u,H3,I3,pu,q3⟩=>?_);rw[evalPart_none];refine wY ?_;have I4:Inv X ae σ H3 { s3 with heap:=s3.heap.push { cls:=.type "slice",data:=.fields #[vl,vu,.none] } }:=I3.kept (t':=s3.toks) λb ob q=>vZ _ q;obtain⟨T,id,hT,ht,hg⟩:=hr ae { s3 with heap:=s3.heap.push { cls:=.type "slice",data:=.fields #[vl,vu,.none] } } σ H3 x v vl vu l u s3.heap.objs.size Q I4 r1 (Heap.IsSliceOf.new ..) pl pu q3;show wpAny (model X.prog X.w) X.A (subscriptTail e (.Slice lo hi none p2) v (.ref s3.heap.objs.size)) (EP X ae σ Q) X.xe { s3 with heap:=s3.heap.push { cls:=.type "slice",data:=.fields #[vl,vu,.none] } };exact tail_any (ops:=[.ref s3.heap.objs.size,v]) ht hT hg (by with_unfolding_all rfl)
def rZ (xs:List V)(lo hi:Option Int):List V:=(xs.drop (HT.eA xs.length 0 lo)).take (HT.eA xs.length xs.length hi - HT.eA xs.length 0 lo)
theorem oi (xs:List V)(lo hi:Option Int):(rZ xs lo hi).length<=xs.length:=by
 unfold rZ;rw[List.length_take,List.length_drop];omega
def Sn (K:PySem.W.Frag):V->Option Int->Option Int->Hp->VK->Prop:=λx lo hi H Q=>∃a xs,x=.ref a/\jf K H a xs /\
 ¬(HT.eA xs.length 0 lo=0/\HT.eA xs.length xs.length hi=xs.length)/\∀p,H p=none->Q (.ref p) (upd H p (.tup (rZ xs lo hi)))
theorem LR:DO X (Sn X.K):=by
 intro ae s σ H x v vl vu lo hi sl Q I rx hs pl pu h;obtain⟨a,xs,rfl,hx,hw,q⟩:=h;cases rx
 obtain⟨its,r,ht,hz⟩:=I.tuple hx;have bL:its.toArray.size=xs.length:=by rw[vH];exact r.length.symm
 refine⟨"tuple",_,PyProof.Rows.slot_tuple_getitem.lookup,ht.typeIs,?_⟩;refine HT.lY ht hs pl pu (by rw[bL];exact hw) ?_ (by rw[bL];exact hz);rw[bL];refine⟨.ref s.heap.objs.size,_,I.laid (t':=s.toks) (o:=.tup (rZ xs lo hi)) (λb ob q=>vZ _ q) (vT _) ?_,rfl,q _ (I.hok.fresh (vT _))⟩;exact⟨vR (oi xs lo hi) hz,_,(r.drop (HT.eA xs.length 0 lo)).take (HT.eA xs.length xs.length hi - HT.eA xs.length 0 lo),IsTup.new _ _⟩
def Pe (K:PySem.W.Frag):R2:=λx y H Q=>∃a b xs ys,x=.ref a/\y=.ref b/\jf K H a xs/\jf K H b ys/\xs≠[]/\xs.length+ys.length<=sizeLine /\
 (ys=[]->Q (.ref a) H)/\(ys≠[]->∀p,H p=none->Q (.ref p) (upd H p (.tup (xs++ys))))
theorem aW.nil_iff (r:aW xs us):us=[]↔xs=[]:=by
 cases r with
 |nil=>simp
 |cons _ _=>simp
theorem HH:dJ X (binaryOp .Add) (Pe X.K):=by
 intro ae s σ H x y v u Q I rx ry h;obtain⟨a,b,xs,ys,rfl,rfl,ha,hb,hx,hz,q1,q2⟩:=h;cases rx
 cases ry
 obtain⟨its,r1,p1,_⟩:=I.tuple ha;obtain⟨zi,r2,p2,_⟩:=I.tuple hb;refine HT.HD p1 p2 (λz=>hx (r1.nil_iff.mp z)) (λz=>⟨.ref a,H,I,rfl,q1 (r2.nil_iff.mp z)⟩) (λz=>?_) (by rw[←r1.length,←r2.length];exact hz);refine⟨.ref s.heap.objs.size,_,I.laid (t':=s.toks) (o:=.tup (xs++ys)) (λb ob q=>vZ _ q) (vT _) ?_,rfl,q2 (λw=>z (r2.nil_iff.mpr w)) _ (I.hok.fresh (vT _))⟩;exact⟨by rw[uZ];exact hz,_,r1.append r2,IsTup.new _ _⟩
end
def C9 (n:Nat)(i:Int):Option Nat:=if 0<=i then (if i<n then some i.toNat else none)else if -(n:Int)<=i then some (i+n).toNat else none
def oj {α:Type}(xs:List α)(i:Int):Option α:=(C9 xs.length i).bind λj=>xs[j]?
theorem AN (h:C9 n i=some j):seqIndex? i n=some j/\j<n/\-(n:Int)<=i/\i<n:=by
 unfold C9 at h;by_cases h0:0<=i
 ·rw[if_pos h0]at h;by_cases h1:i<n
  ·rw[if_pos h1]at h;have e:i.toNat=j:=vK h;exact⟨by rw[seqIndex_of h0 h1,e],by omega,by omega,h1⟩
  ·rw[if_neg h1]at h;cases h
 ·rw[if_neg h0]at h;by_cases h1 : -(n:Int)<=i
  ·rw[if_pos h1]at h;have e:(i+n).toNat=j:=vK h;exact⟨by rw[seqIndex_neg (by omega) h1,e],by omega,h1,by omega⟩
  ·rw[if_neg h1]at h;cases h
theorem uw {α:Type}{xs:List α}{i:Int}{v:α}(h:oj xs i=some v):∃j,seqIndex? i xs.length=some j/\xs[j]? = some v/\j<xs.length/\-(xs.length:Int)<=i/\i<xs.length:=by
 unfold oj at h;cases e:C9 xs.length i with
 |none=>rw[e]at h;cases h
 |some j=>
  rw[e]at h;obtain⟨h1,h2,h3,h4⟩:=AN e;exact⟨j,h1,h,h2,h3,h4⟩
theorem HI {α:Type}{xs:List α}{j:Nat}{v:α}(h:xs[j]? = some v):oj xs (j:Int)=some v:=by
 have hj:j<xs.length:=(vV h).1;have e:C9 xs.length (j:Int)=some j:=by
  unfold C9;rw[if_pos (by omega),if_pos (by omega)];simp
 unfold oj;rw[e];exact h
def ux (b:Expr):Prop:=∀o i,subscripted b false o i=operate [o,i] (getItem o i)
def Ha (X:Cx)(r:R2):Prop :=
 ∀(value slice:Expr)(ae:List (Addr×Obj))(s:Shared)(σ:St)(H:Hp)(x y:V)(v u:Value)(Q:VK),Inv X ae σ H s->ba x v->ba y u->r x y H Q ->
  subscripted slice false v u=operate [v,u] (getItem v u)->wpAny (model X.prog X.w) X.A (subscriptTail value slice v u) (EP X ae σ Q) X.xe s
def HJ (X:Cx)(id:String)(r:V->List V->Hp->VK->Prop):Prop :=
 ∀(ae:List (Addr×Obj))(s:Shared)(σ:St)(H:Hp)(x:V)(xs:List V)(v:Value)(us:List Value)(Q:VK),Inv X ae σ H s->ba x v->aW xs us->r x xs H Q ->
  wpAny (model X.prog X.w) X.A (call (.builtin id) (v::us)) (EP X ae σ Q) X.xe s
section
variable {X:Cx}{a b:Expr}{ta tb:TE}{pos:Pos}
theorem Ha.or (h:Ha X r)(h':Ha X r'):Ha X (λx y H Q=>r x y H Q∨r' x y H Q):=by
 intro value slice ae s σ H x y v u Q I rx ry q hs;rcases q with q|q
 ·exact h value slice ae s σ H x y v u Q I rx ry q hs
 ·exact h' value slice ae s σ H x y v u Q I rx ry q hs
theorem HJ.or {id:String}{r r':V->List V->Hp->VK->Prop}(h:HJ X id r)(h':HJ X id r'):HJ X id (λx xs H Q=>r x xs H Q∨r' x xs H Q):=by
 intro ae s σ H x xs v us Q I rx rs q;rcases q with q|q
 ·exact h ae s σ H x xs v us Q I rx rs q
 ·exact h' ae s σ H x xs v us Q I rx rs q
theorem Kd (hr:Ha X r)(ha:PE X a ta)(hb:PE X b tb)(hs:ux b):PE X (.Subscript a b pos) (Rp r ta tb):=by
 intro ae s σ H Q I h;exact Subscript_ (LF ha hb I h λv u s2 x y H2 I2 rx ry q=>hr a b ae s2 σ H2 x y v u Q I2 rx ry q (hs _ _))
def So (K:PySem.W.Frag):R2:=λx y H Q=>∃p xs i v,x=.ref p/\y=.int i/\iF K H p xs/\oj xs i=some v/\Q v H
def Sq (K:PySem.W.Frag):R2:=λx y H Q=>∃p xs i v,x=.ref p/\y=.int i/\jf K H p xs/\oj xs i=some v/\Q v H
def Sr:R2:=λx y H Q=>∃z i c,x=.str z/\y=.int i/\z.length<=sizeLine/\oj z.cps.toList i=some c/\Q (.str ⟨#[c]⟩) H
theorem HK:Ha X (So X.K):=by
 intro value slice ae s σ H x y v u Q I rx ry h hs;obtain⟨p,xs,i,z,rfl,rfl,hq,he,q⟩:=h;cases rx
 obtain⟨t,rfl⟩:=ry;obtain⟨its,r,pl,hz⟩:=I.list hq;obtain⟨j,h1,h2,h3,h4,h5⟩:=uw he;obtain⟨w,ew,Qk⟩:=r.get h2;have hl:=r.length;have hn:=nu;have lW:EP X ae σ Q w s:=⟨z,H,I,Qk,q⟩;by_cases h0:0<=i
 ·have hj:i.toNat=j:=by
   rw[seqIndex_of h0 h5]at h1;exact vK h1
  exact item_listR pl.isList h0 (by omega) (by rw[hj];simpa using ew) lW hs
 ·have hj:(i+(its.toArray.size:Int)).toNat=j:=by
   rw[seqIndex_neg (by omega) h4]at h1;rw[vH,←hl];exact vK h1
  exact subscriptTail_builtinR (x:=w) pl.isList.typeIs slot_list_getitem.lookup
   (wpAny_getItem_list_neg (Q:=λr s'=>r=w/\EP X ae σ Q r s') pl.isList (by omega) (by rw[vH]<;>omega) (by omega) (by rw[hj];simpa using ew) ⟨rfl,lW⟩) hs
theorem zG:Ha X (Sq X.K):=by
 intro value slice ae s σ H x y v u Q I rx ry h hs;obtain⟨p,xs,i,z,rfl,rfl,hq,he,q⟩:=h;cases rx
 obtain⟨t,rfl⟩:=ry;obtain⟨its,r,pl,hz⟩:=I.tuple hq;obtain⟨j,h1,h2,h3,h4,h5⟩:=uw he;obtain⟨w,ew,Qk⟩:=r.get h2;have hl:=r.length;have hn:=nu;have lW:EP X ae σ Q w s:=⟨z,H,I,Qk,q⟩;exact subscriptTail_builtinR (x:=w) pl.typeIs slot_tuple_getitem.lookup
  (getItem_tuple (j:=j) (Q:=λr s'=>r=w/\EP X ae σ Q r s') pl (by omega) (by omega) (by rw[vH,←hl];exact h1) (by simpa using ew) ⟨rfl,lW⟩) hs
theorem zH:Ha X Sr:=by
 intro value slice ae s σ H x y v u Q I rx ry h hs;obtain⟨z,i,c,rfl,rfl,hz,he,q⟩:=h;obtain⟨t,rfl⟩:=rx;obtain⟨t',rfl⟩:=ry;obtain⟨j,h1,h2,h3,h4,h5⟩:=uw he;have hl:z.cps.toList.length=z.length:=by simp[Str.length]
 rw[hl]at h1 h4 h5;have hn:=nu;exact tail_any (typeIs_str s z t) slot_str_getitem.lookup (getItem_str (c:=c) (by
  have e1:decide (i < -(2 ^ 63:Int))=false:=decide_eq_false (by omega);have e2:decide (i ≥ 2 ^ 63)=false:=decide_eq_false (by omega);rw[e1,e2,Bool.or_false]) (by rw[h1];simpa using h2) ⟨.str ⟨#[c]⟩,H,I.tok _,⟨_,rfl⟩,q⟩) hs
theorem zI (its:List Value)(n j:Nat)(u:Value):Obj.mapSeq (·.setIfInBounds j u) { cls:=.type "list",data:=.seq its.toArray n }={ cls:=.type "list",data:=.seq (its.set j u).toArray n }:=by
 simp[Obj.mapSeq]
theorem Inv.lst (I:Inv X ae σ H s)(h:H p=some (.lst xs)):
  ∃(its:List Value)(n:Nat),aW xs its/\s.heap.get? p=some { cls:=.type "list",data:=.seq its.toArray n }/\xs.length<=sizeLine:=by
 obtain⟨z,its,n,r,e⟩:=I.hok p _ h;exact⟨its,n,r,e,z⟩
theorem Inv.lstUpd {ae:List (Addr×Obj)}{σ:St}{H:Hp}{s:Shared}{p:Addr}{xs ys:List V}{its its':List Value}{n n':Nat}{f:Obj->Obj}(I:Inv X ae σ H s)(h:H p=some (.lst xs))
  (ho:s.heap.get? p=some { cls:=.type "list",data:=.seq its.toArray n }) (hf:f { cls:=.type "list",data:=.seq its.toArray n }={ cls:=.type "list",data:=.seq its'.toArray n' }) (r:aW ys its') (hz:ys.length<=sizeLine) (t:Nat):
  Inv X ae σ (upd H p (.lst ys)) { s with heap:=s.heap.update p f,toks:=t }:=by
 have e:(s.heap.update p f).get? p=some { cls:=.type "list",data:=.seq its'.toArray n' }:=by
  rw[Heap.get?_update_self f ho (by rw[hf]<;>rfl),hf]
 refine I.write (x:=p) (e:=p) (by rw[h];trivial) (.inl rfl) (λb u hb q=>(Heap.get?_update_other _ _ (Ne.symm hb)).trans q) ⟨_,e⟩ ?_;exact⟨hz,its',n',r,e⟩
def Pf:V->V->V->Hp->(Hp->Prop)->Prop:=λo i v H Q=>∃p xs k j,o=.ref p/\i=.int k/\H p=some (.lst xs)/\C9 xs.length k=some j/\Q (upd H p (.lst (xs.set j v)))
theorem El:ON X Pf:=by
 intro ae s σ H o i v ov iv u Q I ro ri rv h;obtain⟨p,xs,k,j,rfl,rfl,hp,hj,q⟩:=h;cases ro
 obtain⟨t,rfl⟩:=ri;obtain⟨its,n,r,ho,hz⟩:=I.lst hp;obtain⟨h1,h2,h3,h4⟩:=AN hj;have hl:=r.length;have hn:=nu;have I':Inv X ae σ (upd H p (.lst (xs.set j v))) { s with heap:=s.heap.update p (Obj.mapSeq (·.setIfInBounds j u)) } :=
  I.lstUpd hp ho (zI its n j u) (r.set rv j) (by rw[List.length_set];exact hz) s.toks
 by_cases h0:0<=k
 ·have hk:k.toNat=j:=by
   rw[seqIndex_of h0 h4]at h1;exact vK h1
  exact PySem.W.ki_setAt ho h0 (by omega) (by rw[vH,←hl];exact h4) (by rw[hk];exact⟨_,I',q⟩)
 ·have hk:(k+(its.toArray.size:Int)).toNat=j:=by
   rw[seqIndex_neg (by omega) h3]at h1;rw[vH,←hl];exact vK h1
  exact PySem.W.ki_setBack ho (by omega) (by rw[vH,←hl];exact h3) (by omega) (by rw[hk];exact⟨_,I',q⟩)
theorem uy (lo hi:Option Int)(n:Nat):(sliceBounds lo hi none n).1=((HT.eA n 0 lo:Nat):Int)/\(sliceBounds lo hi none n).2.1=((HT.eA n n hi:Nat):Int)/\(sliceBounds lo hi none n).2.2=1:=by
 refine⟨?_,?_,rfl⟩
 ·cases lo with
  |none=>simp[sliceBounds,HT.eA]
  |some i=>
   simp only[sliceBounds,HT.eA,Option.getD_none,show(1:Int) > 0 by decide,if_true];by_cases h:i<0
   ·simp only[h,if_true]<;>omega
   ·simp only[h,if_false]<;>omega
 ·cases hi with
  |none=>simp[sliceBounds,HT.eA]
  |some i=>
   simp only[sliceBounds,HT.eA,Option.getD_none,show(1:Int) > 0 by decide,if_true];by_cases h:i<0
   ·simp only[h,if_true]<;>omega
   ·simp only[h,if_false]<;>omega
theorem sd (its:List Value)(lo hi:Option Int):slicePick its.toArray lo hi none=((its.drop (HT.eA its.length 0 lo)).take (HT.eA its.length its.length hi - HT.eA its.length 0 lo)).toArray:=by
 obtain⟨h1,h2,h3⟩:=uy lo hi its.toArray.size;unfold slicePick;rw[h1,h2,h3];simp only[sliceRange_one,pick_run,vH]<;>rfl
def Ss (K:PySem.W.Frag):V->Option Int->Option Int->Hp->VK->Prop:=λx lo hi H Q=>∃a xs,x=.ref a/\iF K H a xs/\∀p,H p=none->Q (.ref p) (upd H p (.lst (rZ xs lo hi)))
theorem HL:DO X (Ss X.K):=by
 intro ae s σ H x v vl vu lo hi sl Q I rx hs pl pu h;obtain⟨a,xs,rfl,hx,q⟩:=h;cases rx
 obtain⟨its,r,ht,hz⟩:=I.list hx;have bL:=r.length;refine⟨"list",_,slot_list_getitem.lookup,ht.isList.typeIs,?_⟩;refine wpAny_getItem_list_slice ht.isList hs pl pu .none (by simp) ?_ (by rw[vH]<;>omega)
 rw[sd,←bL];refine⟨.ref s.heap.objs.size,_,I.laid (t':=s.toks) (o:=.lst (rZ xs lo hi)) (λb ob q=>vZ _ q) (vT _) ?_,rfl,q _ (I.hok.fresh (vT _))⟩;exact⟨vR (oi xs lo hi) hz,_,0,(r.drop (HT.eA xs.length 0 lo)).take (HT.eA xs.length xs.length hi - HT.eA xs.length 0 lo),vY _ rfl⟩
noncomputable def lh:V->Bool
 |.non=>true
 |.bl _=>true
 |.int _=>true
 |.str _=>true
 |_=>false
def Hb:V->V->Bool
 |.non,.non=>true
 |.bl a,.bl b=>a == b
 |.bl a,.int b=>(if a then 1 else 0) == b
 |.int a,.bl b=>a == (if b then 1 else 0)
 |.int a,.int b=>a == b
 |.str a,.str b=>a == b
 |_,_=>false
theorem LS (ry:ba y u)(rx:ba x v)(fy:lh y=true)(fx:lh x=true):SeqAt.EqAt A s u v (Hb y x):=by
 cases y with
 |non=>
  cases ry
  cases x with
  |non=>cases rx;exact SeqAt.EqAt.same _
  |bl b=>cases rx;exact SeqAt.EqAt.none_bool b
  |int b=>obtain⟨t,rfl⟩:=rx;exact SeqAt.EqAt.none_int b t
  |str b=>obtain⟨t,rfl⟩:=rx;exact SeqAt.EqAt.none_str b t
  |_=>exact absurd (show false=true from fx) uX
 |bl a=>
  cases ry
  cases x with
  |non=>cases rx;exact SeqAt.EqAt.bool_none a
  |bl b=>cases rx;exact SeqAt.EqAt.bool_bool a b
  |int b=>obtain⟨t,rfl⟩:=rx;exact SeqAt.EqAt.bool_int a b t
  |str b=>obtain⟨t,rfl⟩:=rx;exact SeqAt.EqAt.bool_str a b t
  |_=>exact absurd (show false=true from fx) uX
 |int a=>
  obtain⟨t',rfl⟩:=ry;cases x with
  |non=>cases rx;exact SeqAt.EqAt.int_none a t'
  |bl b=>cases rx;exact SeqAt.EqAt.int_bool a t' b
  |int b=>obtain⟨t,rfl⟩:=rx;exact SeqAt.EqAt.int_int a t' b t
  |str b=>obtain⟨t,rfl⟩:=rx;exact SeqAt.EqAt.int_str a t' b t
  |_=>exact absurd (show false=true from fx) uX
 |str a=>
  obtain⟨t',rfl⟩:=ry;cases x with
  |non=>cases rx;exact SeqAt.EqAt.str_none a t'
  |bl b=>cases rx;exact SeqAt.EqAt.str_bool a t' b
  |int b=>obtain⟨t,rfl⟩:=rx;exact SeqAt.EqAt.str_int a t' b t
  |str b=>obtain⟨t,rfl⟩:=rx;exact SeqAt.EqAt.str_str a t' b t
  |_=>exact absurd (show false=true from fx) uX
 |_=>exact absurd (show false=true from fy) uX
def zJ (x:V)(u:Value):Bool:=match u with
 |.none=>Hb .non x
 |.bool b=>Hb (.bl b) x
 |.int i _=>Hb (.int i) x
 |.str z _=>Hb (.str z) x
 |_=>false
theorem Em (r:ba y u)(f:lh y=true):zJ x u=Hb y x:=by
 cases y with
 |non=>cases r;rfl
 |bl b=>cases r;rfl
 |int i=>obtain⟨t,rfl⟩:=r;rfl
 |str z=>obtain⟨t,rfl⟩:=r;rfl
 |_=>exact absurd (show false=true from f) uX
theorem lZ:∀ {xs:List V}{us:List Value},aW xs us->xs.all lh=true->us.any (zJ x)=xs.any λy=>Hb y x
 |_,_,.nil,_=>rfl
 |y::xs,u::us,.cons r t,f=>by
  rw[List.all_cons,vC]at f;rw[List.any_cons,List.any_cons,Em r f.1,lZ t f.2]
theorem jY (rx:ba x v)(fx:lh x=true):∀ {xs:List V}{us:List Value},aW xs us->xs.all lh=true->∀u∈us,SeqAt.EqAt A s u v (zJ x u)
 |_,_,.nil,_=>λu hu=>by cases hu
 |y::xs,u::us,.cons r t,f=>λu' hu=>by
  rw[List.all_cons,vC]at f;rcases vP hu with rfl|hu
  ·rw[Em r f.1];exact LS r rx f.1 fx
  ·exact jY rx fx t f.2 u' hu
noncomputable def Rq (x:V)(xs:List V):Bool:=xs.any λy=>Hb y x
def UD (K:PySem.W.Frag)(Xk:Bool):R2:=λx y H Q=>∃p xs,y=.ref p/\(iF K H p xs∨jf K H p xs)/\lh x=true/\xs.all lh=true/\Q (.bl (if Xk then !Rq x xs else Rq x xs)) H
theorem CA:dJ X (compareOp .In) (UD X.K false):=by
 intro ae s σ H x y v u Q I rx ry h;obtain⟨p,xs,rfl,hq,fx,fs,q⟩:=h;cases ry
 rcases hq with hq|hq
 ·obtain⟨its,r,pl,hz⟩:=I.list hq;refine SeqAt.in_listAt (zJ x) pl.isList (λw hw=>jY rx fx r fs w (by simpa using hw)) ⟨.bl _,H,I,rfl,?_⟩;rw[show its.toArray.any (zJ x)=its.any (zJ x) by simp,lZ r fs];exact q
 ·obtain⟨its,r,pl,hz⟩:=I.tuple hq;refine SeqAt.in_tupleAt (zJ x) pl (λw hw=>jY rx fx r fs w (by simpa using hw)) ⟨.bl _,H,I,rfl,?_⟩;rw[show its.toArray.any (zJ x)=its.any (zJ x) by simp,lZ r fs];exact q
theorem uz:dJ X (compareOp .NotIn) (UD X.K true):=by
 intro ae s σ H x y v u Q I rx ry h;obtain⟨p,xs,rfl,hq,fx,fs,q⟩:=h;cases ry
 rcases hq with hq|hq
 ·obtain⟨its,r,pl,hz⟩:=I.list hq;refine SeqAt.notIn_listAt (zJ x) pl.isList (λw hw=>jY rx fx r fs w (by simpa using hw)) ⟨.bl _,H,I,rfl,?_⟩;rw[show its.toArray.any (zJ x)=its.any (zJ x) by simp,lZ r fs];exact q
 ·obtain⟨its,r,pl,hz⟩:=I.tuple hq;refine SeqAt.notIn_tupleAt (zJ x) pl (λw hw=>jY rx fx r fs w (by simpa using hw)) ⟨.bl _,H,I,rfl,?_⟩;rw[show its.toArray.any (zJ x)=its.any (zJ x) by simp,lZ r fs];exact q
theorem u0:bP X (.builtin "len") (λxs H Q=>∃p ys,xs=[.ref p]/\(iF X.K H p ys∨jf X.K H p ys)/\Q (.int ys.length) H):=by
 intro ae s σ H xs us Q I r h;obtain⟨p,ys,rfl,hq,q⟩:=h;obtain⟨u,rfl,rx⟩:=gM r;cases rx
 have hn:=nu;rcases hq with hq|hq
 ·obtain⟨its,r',pl,hz⟩:=I.list hq;have bL:=r'.length;exact Calls.call_len_list pl.isList (by simp only[vH]<;>omega) ⟨.int ys.length,H,I.tok _,⟨s.toks+1,by rw[vH,bL]⟩,q⟩
 ·obtain⟨its,r',pl,hz⟩:=I.tuple hq;have bL:=r'.length;exact len_tuple pl (by simp only[vH]<;>omega) ⟨.int ys.length,H,I.tok _,⟨s.toks+1,by rw[vH,bL]⟩,q⟩
theorem u5:bP X (.builtin "len") (λxs H Q=>∃z,xs=[.str z]/\z.length<=sizeLine/\Q (.int z.length) H):=by
 intro ae s σ H xs us Q I r h;obtain⟨z,rfl,hz,q⟩:=h;obtain⟨u,rfl,t,rfl⟩:=gM r;have hn:=nu;exact len_str (by omega) ⟨.int z.length,H,I.tok _,⟨_,rfl⟩,q⟩
theorem bP.or (h:bP X f r)(h':bP X f r'):bP X f (λxs H Q=>r xs H Q∨r' xs H Q):=by
 intro ae s σ H xs us Q I rs q;rcases q with q|q
 ·exact h ae s σ H xs us Q I rs q
 ·exact h' ae s σ H xs us Q I rs q
theorem u6:bP X (.type "list") (λxs H Q=>∃p ys,xs=[.ref p]/\(iF X.K H p ys∨jf X.K H p ys)/\∀l,H l=none->Q (.ref l) (upd H l (.lst ys))):=by
 intro ae s σ H xs us Q I r h;obtain⟨p,ys,rfl,hq,q⟩:=h;obtain⟨u,rfl,rx⟩:=gM r;cases rx
 have lW:∀(its:List Value),aW ys its->ys.length<=sizeLine->∀(h':Heap)(c':Nat),(∀b o',s.heap.get? b=some o'->h'.get? b=some o') ->
   h'.get? s.heap.objs.size=some { cls:=.type "list",dict:=none,data:=.seq its.toArray c',slots:=#[] }->EP X ae σ Q (.ref s.heap.objs.size) { s with heap:=h' }:=λits r' hz h' c' kp e=>
  ⟨.ref s.heap.objs.size,_,I.laid (t':=s.toks) kp (vT _) (show bO X.prog X.w _ h' _ (.lst ys)from ⟨hz,its,c',r',e⟩),rfl,q _ (I.hok.fresh (vT _))⟩
 rcases hq with hq|hq
 ·obtain⟨its,r',pl,hz⟩:=I.list hq;have bL:=r'.length;obtain⟨o,ho,hc,n,hd⟩:=pl.isList;exact call_list_seq p (.inl rfl) ho hc hd (λh' c' kp e=>lW its r' hz h' c' kp e) (by simp only[vH]<;>omega)
 ·obtain⟨its,r',pl,hz⟩:=I.tuple hq;have bL:=r'.length;obtain⟨o,ho,hc,n,hd⟩:=pl;exact call_list_seq p (.inr rfl) ho hc hd (λh' c' kp e=>lW its r' hz h' c' kp e) (by simp only[vH]<;>omega)
theorem se:bP X (.type "tuple") (λxs H Q=>∃p ys,xs=[.ref p]/\((iF X.K H p ys/\∀l,H l=none->Q (.ref l) (upd H l (.tup ys)))∨(jf X.K H p ys/\Q (.ref p) H))):=by
 intro ae s σ H xs us Q I r h;obtain⟨p,ys,rfl,h⟩:=h;obtain⟨u,rfl,rx⟩:=gM r;cases rx
 rcases h with⟨hq,q⟩|⟨hq,q⟩
 ·obtain⟨its,r',pl,hz⟩:=I.list hq;have bL:=r'.length;refine call_tuple_list pl.isList (λh' kp=>?_) (by simp only[vH]<;>omega)
  have I1:Inv X ae σ H { s with heap:=h' }:=I.kept (t':=s.toks) kp;have I2:Inv X ae σ (upd H h'.objs.size (.tup ys)) { s with heap:=h'.push { cls:=.type "tuple",data:=.seq its.toArray } } :=
   I1.laid (t':=s.toks) (λb o e=>vZ _ e) (vT _) (show bO X.prog X.w _ _ _ (.tup ys)from ⟨hz,its,r',IsTup.new _ _⟩)
  exact⟨.ref h'.objs.size,_,I2,rfl,q _ (I1.hok.fresh (vT _))⟩
 ·obtain⟨its,r',pl,hz⟩:=I.tuple hq;exact call_tuple_same pl ⟨.ref p,H,I,rfl,q⟩
def UE (K:PySem.W.Frag)(T:String)(x:V)(H:Hp):Prop:=match x with
 |.str _=>T = "str"
 |.int _=>T = "int"
 |.ref p=>(T = "list"/\∃xs,iF K H p xs)∨(T = "tuple"/\∃o,K.lookup p=some o/\o.cls=.type "tuple"/\o.dict=none) ∨
   (T = "dict"/\((∃aL ob,H p=some (.dK aL ob))∨∃aL,H p=some (.dT aL)))∨(T = "set"/\∃S n,H p=some (.set S n))
 |_=>False
theorem zK (I:Inv X ae σ H s)(r:ba x v)(ty:UE X.K T x H):
  s.TypeIs v T/\∀a,v=.ref a->∃ob,s.heap.get? a=some ob/\ob.dict=none:=by
 cases x with
 |str z=>
  obtain⟨t,rfl⟩:=r;cases (show T = "str" from ty)
  exact⟨typeIs_str s z t,λ_ e=>nomatch e⟩
 |int i=>
  obtain⟨t,rfl⟩:=r;cases (show T = "int" from ty)
  exact⟨typeIs_int s i t,λ_ e=>nomatch e⟩
 |ref p=>
  cases r
  rcases ty with⟨rfl,xs,hq⟩|⟨rfl,o,hk,hc,hd⟩|⟨rfl,hk⟩|⟨rfl,S,n,hk⟩
  ·obtain⟨its,_,pl,_⟩:=I.list hq;refine⟨pl.isList.typeIs,λa e=>?_⟩;cases e
   obtain⟨o,n,e,c,hd,_⟩:=pl;exact⟨o,e,hd⟩
  ·refine⟨⟨o,I.kIn p o hk,hc⟩,λa e=>?_⟩;cases e
   exact⟨o,I.kIn _ o hk,hd⟩
  ·have z:∃o,s.heap.get? p=some o/\o.ExactDict:=by
    rcases hk with⟨aL,Vh,hk⟩|⟨aL,hk⟩
    ·obtain⟨_,_,_,_,_,o,_,_,e,ex,_⟩:=I.hok p _ hk;exact⟨o,e,ex⟩
    ·obtain⟨_,_,_,_,o,_,_,e,ex,_⟩:=I.hok p _ hk;exact⟨o,e,ex⟩
   obtain⟨o,e,ex⟩:=z;refine⟨⟨o,e,ex.1⟩,λa e2=>?_⟩;cases e2
   exact⟨o,e,ex.2.1⟩
  ·obtain⟨o,_,_,_,e,ex,_⟩:=I.hok p _ hk;refine⟨⟨o,e,ex.1⟩,λa e2=>?_⟩;cases e2
   exact⟨o,e,ex.2.1⟩
 |_=>exact False.elim ty
def Wx (K:PySem.W.Frag)(T:String)(r:V->List V->Hp->VK->Prop)(to:TE)(t:TA):TE:=λσ H Q=>to σ H λx H1=>UE K T x H1/\t σ H1 λxs H2=>r x xs H2 Q
variable {o e:Expr}{es:List Expr}{to:TE}{t:TA}{name:Str}{dC cG:Pos}{T id:String}{r:V->List V->Hp->VK->Prop}
theorem En (pa:PlainAttrs T)(slot:Slot T name id)(KZ:typeOf (.builtin id)=pure (.type "method_descriptor"))(hm:HJ X id r)(ho:PE X o to)(ha:PA X (e::es) t)
  (iC:attributeBase o name X.env (eval o X.env)=eval o X.env:=by rfl)
  (AF:((backTo cG (starEach (e::es) X.env)).all (λx=>!x.1) && (backToKw cG (keywordEach [] X.env)).all (λx=>x.1.isSome)
   && decide ((e::es).length+([]:List Keyword).length+(if([]:List Keyword).isEmpty then 0 else 1)<30))=true:=by rfl)
  (iD:(dC.endLine == cG.line)=true:=by rfl) (hs:starEach (e::es) X.env=(false,eval e X.env)::starEach es X.env:=by rfl) (Nl:(backTo cG (starEach es X.env)).any (·.1)=false:=by rfl):
  PE X (.Call (.Attribute o name dC) (e::es) [] cG) (Wx X.K T r to t):=by
 intro ae s σ H Q I h;refine wpAny_Call_method_late iC AF iD rfl (cV (ho ae s σ H _ I h) λv s1 ⟨x,H1,I1,r1,ty,q1⟩=>?_);obtain⟨h1,h2⟩:=zK I1 r1 ty;refine⟨T,id,pa,slot,KZ,h1,h2,?_⟩;have hA:=ha cG ae s1 σ H1 _ I1 q1;rw[hs]at hA ⊢;refine Calls.callWith_builtin (by show(false || (backTo cG (starEach es X.env)).any (·.1))=false;rw[Nl]<;>rfl) (Calls.evalArgs_plain ?_)
 exact cV hA λus s2 ⟨vs,H2,I2,r2,q2⟩=>hm ae s2 σ H2 x vs v us Q I2 r1 r2 q2
/- xs.append(e),list.index on a module's tuple .. are HJ facts of 06m -/
end
def Wy (X:Cx)(id:String)(r:V->List V->Hp->VK->Prop):Prop :=
 ∀(ae:List (Addr×Obj))(s:Shared)(σ:St)(H:Hp)(x:V)(xs:List V)(v:Value)(us:List Value)(Q:VK),Inv X ae σ H s->ba x v->aW xs us->r x xs H Q ->
  wpAny (model X.prog X.w) X.A (call (.builtin id) (v::us)) (EP X ae σ Q) X.xe s
theorem aW.one:∀ {x:V}{us:List Value},aW [x] us->∃u,us=[u]/\ba x u
 |_,_,.cons r .nil=>⟨_,rfl,r⟩
theorem aW.two:∀ {x y:V}{us:List Value},aW [x,y] us->∃u v,us=[u,v]/\ba x u/\ba y v
 |_,_,_,.cons r (.cons q .nil)=>⟨_,_,rfl,r,q⟩
theorem aW.eraseIdx:∀ {xs:List V}{us:List Value}(i:Nat),aW xs us->aW (xs.eraseIdx i) (us.eraseIdx i)
 |_,_,_,.nil=>.nil
 |_,_,0,.cons _ t=>t
 |_,_,i+1,.cons r t=>.cons r (aW.eraseIdx i t)
theorem aW.rep (h:aW xs us):∀k:Nat,aW (List.replicate k xs).flatten (List.replicate k us).flatten
 |0=>.nil
 |k+1=>by
  rw[List.replicate_succ,List.replicate_succ,List.flatten_cons,List.flatten_cons];exact aW.append h (aW.rep h k)
theorem sL (its:List Value):∀(k:Nat)(lV:List Value),
  List.foldl (λx1 x2=>x1++x2) lV.toArray (List.replicate k its.toArray)=(lV++(List.replicate k its).flatten).toArray
 |0,lV=>by simp
 |k+1,lV=>by
  have e:lV.toArray++its.toArray=(lV++its).toArray:=by simp
  have e2:(lV++its)++(List.replicate k its).flatten=lV++(List.replicate (k+1) its).flatten:=by
   rw[List.replicate_succ,List.flatten_cons,List.append_assoc]
  rw[←e2,←sL its k (lV++its),←e,List.replicate_succ,List.foldl_cons]
section
variable {X:Cx}{ae:List (Addr×Obj)}{σ:St}{H:Hp}{s:Shared}{l b:Addr}{xs ys zs:List V}
theorem Inv.lset {its its':List Value}{n:Nat}{f:Array Value->Array Value}{t':Nat}(I:Inv X ae σ H s)(hH:H l=some (.lst xs))
  (e:s.heap.get? l=some { cls:=.type "list",data:=.seq its.toArray n }) (hf:f its.toArray=its'.toArray) (hv:aW ys its') (hz:ys.length<=sizeLine):
  Inv X ae σ (upd H l (.lst ys)) { s with heap:=s.heap.update l (Obj.mapSeq f),toks:=t' }:=by
 have q:=PySem.IsL.update e f;rw[hf]at q;refine I.write (x:=l) (e:=l) (by rw[hH];exact trivial) (.inl rfl) (λb' u hb hu=>(Heap.get?_update_other s.heap (Obj.mapSeq f) (Ne.symm hb)).trans hu) ⟨_,q⟩ ?_;exact⟨hz,its',_,hv,q⟩
theorem Inv.lnew (I:Inv X ae σ H s)(hv:aW ys its)(hz:ys.length<=sizeLine):
  Inv X ae σ (upd H s.heap.objs.size (.lst ys)) { s with heap:=s.heap.push { cls:=.type "list",data:=.seq its.toArray },toks:=t' } :=
 I.laid (λ_ _ q=>vZ _ q) (vT _) ⟨hz,its,0,hv,vY _ rfl⟩
theorem Inv.fresh (I:Inv X ae σ H s):H s.heap.objs.size=none:=I.hok.fresh (vT _)
theorem Inv.lstM (I:Inv X ae σ H s)(hH:H l=some (.lst xs)):xs.length<=sizeLine/\∃(its:List Value)(n:Nat),aW xs its/\xs.length=its.length/\s.heap.get? l=some { cls:=.type "list",data:=.seq its.toArray n }:=by
 obtain⟨z,its,n,r,e⟩:=I.hok l _ hH;exact⟨z,its,n,r,r.length,e⟩
theorem Eo (h:n<=sizeLine):Builtin.List.listTooLong n=false:=by
 unfold Builtin.List.listTooLong;exact decide_eq_false (by omega)
end
section
variable {X:Cx}
def AO:V->List V->Hp->VK->Prop:=λx vs H Q=>∃l xs y,x=.ref l/\vs=[y]/\H l=some (.lst xs)/\xs.length<sizeLine/\Q .non (upd H l (.lst (xs++[y])))
theorem sM:Wy X "list.append" AO:=by
 intro ae s σ H x vs v us Q I rx rv h;obtain⟨l,xs,y,rfl,rfl,hH,hz,q⟩:=h;cases rx
 obtain⟨u,rfl,ru⟩:=rv.one;obtain⟨z,its,n,r,hl,e⟩:=I.lstM hH;refine call_meets F.slot_list_append ⟨_,e,rfl⟩ F.entry_list_append (F.args_list_append_2 _ _) (PySem.list_append l its.toArray n u (by rw[vH];omega)) ⟨e,?_⟩;refine⟨.non,_,I.lset (its':=its++[u]) hH e (by simp) (r.append (.cons ru .nil)) ?_,rfl,q⟩;rw[uZ,List.length_singleton];omega
def Su:R2:=λx y H Q=>∃l k xs,x=.ref l/\y=.int k/\H l=some (.lst xs)/\-(2 ^ 63)<=k/\k<2 ^ 63/\xs.length*k.toNat<=sizeLine /\
 ∀p,H p=none->Q (.ref p) (upd H p (.lst (List.replicate k.toNat xs).flatten))
theorem HM {α:Type}(xs:List α)(k:Nat):(List.replicate k xs).flatten.length=k*xs.length:=by
 induction k with
 |zero=>simp
 |succ k ih=>rw[List.replicate_succ,List.flatten_cons,uZ,ih,Nat.succ_mul,Nat.add_comm]
theorem LU:dJ X (binaryOp .Mult) Su:=by
 intro ae s σ H x y v u Q I rx ry h;obtain⟨l,k,xs,rfl,rfl,hH,h1,h2,hz,q⟩:=h;cases rx
 obtain⟨t,rfl⟩:=ry;obtain⟨z,its,n,r,hl,e⟩:=I.lstM hH;have bL:its.toArray.size*k.toNat<=sizeLine:=by rw[vH,←hl];exact hz
 have To:¬its.toArray.size*k.toNat > (2 ^ 63 - 1) / 8:=by
  have:(sizeLine:Nat)<=(2 ^ 63 - 1) / 8:=by decide
  omega
 have Tp:¬(!Builtin.List.listFitsIndex k)=true:=by
  rw[fitsIndex_both h1 h2];exact uX
 have Ql:¬Builtin.List.listTooLong (its.toArray.size*k.toNat)=true:=by
  rw[Eo bL];exact uX
 have Tq:List.foldl (λx1 x2=>x1++x2) #[] (List.replicate (if its.toArray.isEmpty=true then 0 else k.toNat) its.toArray)=(List.replicate k.toNat its).flatten.toArray:=by
  have f0:∀m:Nat,List.foldl (λx1 x2=>x1++x2) #[] (List.replicate m its.toArray)=(List.replicate m its).flatten.toArray:=λm=>by
   have:=sL its m [];rw[List.nil_append]at this;exact this
  rw[f0];cases its with
  |nil=>simp
  |cons a r'=>rw[if_neg (by simp)]
 refine wpAny_binaryOp_repeat_ref (T:="list") (U:="int") (by decide) ⟨_,e,rfl⟩ (λs'=>typeIs_int s' k t) noFill_list_mul F.fills_int_mul F.slot_int_rmul repeat_list F.slot_int_index.lookup
  (call_meets F.slot_int_rmul (typeIs_int s k t) F.entry_int_rmul (F.args_int_rmul_2 _ _) (int___rmul___int_list k t l its.toArray n)
   ⟨e,rfl,⟨_,e,rfl⟩,call_meets F.slot_list_mul ⟨_,e,rfl⟩ F.entry_list_mul (F.args_list_mul_2 _ _) (AutoListH.list___mul___list_int_3 l its.toArray n k t Tp To Ql) ⟨e,?_⟩⟩)
 rw[Tq];exact⟨.ref _,_,I.lnew (t':=s.toks) (r.rep k.toNat) (by rw[HM,Nat.mul_comm];exact hz),rfl,q _ I.fresh⟩
end
end L2
namespace Att
open PySem PySem.W PySem.Calls PyProof.Rows
theorem oR:∀(ns:List Int)(vs:List Value),WellAll P h vs (ns.map WData.int)->IntsAre vs ns:=by
 intro ns;induction ns with
 |nil=>
  intro vs w;rw[List.map_nil]at w;cases w
  exact .nil
 |cons n ns ih=>
  intro vs w;rw[uY]at w;cases w with
  |cons a b=>
   cases a
   exact .cons _ _ (ih _ b)
theorem CB {l:OpenLaw}{n:Nat}(hn:l.most=some n){P:Params}{h:Heap}{args:List WData}{vals:List Value}
  (J8:l.row.toRowW.claim.pre args=true) (Tr:WellAll P h vals args):
  ∃a vs ns,vals=[Value.ref a]/\args=[WData.list (ns.map WData.int)]/\h.get? a=some { cls:=.type "list",data:=.seq vs.toArray }/\IntsAre vs ns/\ns.length<=n:=by
 have Ts:WShape.hasAll [] args [.list .int]=true:=(pre_splitW J8).1;have hc:l.pre.holds [] { args:=args }=true:=(pre_splitW J8).2;obtain⟨d,r,rfl,h1,h2⟩:=hasAllW_cons Ts;obtain rfl:=hasAllW_nil h2;obtain⟨xs,rfl,h3⟩:=hasW_list h1;obtain⟨ns,rfl⟩:=items_int h3;have bL:ns.length<=n:=by
  unfold OpenLaw.pre at hc;have h4:(WTm.not (.lt (.lit (.int (n:Int))) (.len (.arg 0)))).holds [] { args:=[.list (ns.map .int)] }=true:=by
   have h4:=(holds_andW hc).1;rw[hn]at h4;exact h4
  have h5:=condW_of h4 (w_not (w_lt w_lit (w_len_list (w_arg rfl))));rw[vI]at h5;refine Nat.le_of_not_lt λq=>?_;have q':(n:Int)<((ns.length:Nat):Int):=by omega
  first
   | (rw[decide_eq_true q']at h5;exact absurd h5 (by decide))
   | (simp at h5;omega)
 cases Tr with
 |cons w1 w2=>
  cases w2
  cases w1 with
  |list ho lf=>exact⟨_,_,ns,rfl,rfl,ho,oR ns _ lf,bL⟩
theorem CC (l:OpenLaw)(args:List WData):l.row.toRowW.claim.post args (.bool true) args=true :=
 postW_of (r:=l.row.toRowW) (X:=(true == true))
  (show WShape.has [] (.bool true) .bool=true by first|rfl|decide|simp[WShape.has,WShape.arms,WShape.armsAll])
  (show(WTm.eq .res (.lit (.bool true))).value [] { args:=args,res:=some (.bool true),after:=args }=some (.bool (true == true))from w_eq_bool (w_res rfl) w_lit) rfl
theorem wZ {l:OpenLaw}{n:Nat}{q:Program}{Cq:List Str}{XP:(Str->Option Value)->Heap->Prop}{YP:World->Heap->Prop}{d:DefRec}
  (hn:l.most=some n) (Qm:d.params.defaults=[])
  (call:∀(w:World)(s₀ s₁:Shared)(mg mb:Str->Option Value)(fa:Addr)(o:Obj)(pm cd doc:Value)(a:Addr)(vs:List Value)(ns:List Int),
   Ground q Cq [] XP w s₀ mg mb s₁.heap->YP w s₁.heap ->
   s₁.heap.get? fa=some o->o.data=.func (docDef d.name d.params d.body d.scope pm cd doc)->s₁.heap.CodeRec cd d.name->mg d.name=some (.ref fa) ->
   s₁.heap.get? a=some { cls:=.type "list",data:=.seq vs.toArray }->IntsAre vs ns->ns.length<=n->s₁.gens=#[] ->
   codeAny (model l.prog w) callerA (.call (.ref fa) ⟨[.ref a],[]⟩) (λr s'=>r=.ok (.ret (.bool true))/\OldK s₁.heap s'.heap/\s'.os=s₁.os/\AllBare s'.gens) s₁):
  WalkO q Cq XP YP l.row.toRowW d [] (λf vs=>PySem.call f vs):=by
 intro w s₀ s₁ mg mb G Y fa o pm cd doc dV kV ho hd jz hD hmg hg args vals as J8 hlay hrd Tr hlo;obtain rfl:dV=.none:=Dflts.none hD Qm;obtain rfl:kV=.none:=Dflts.noKw hD;obtain⟨a,vs,ns,rfl,rfl,Nm,GF,bL⟩:=CB hn J8 Tr;refine enter_call (codeAny_mono (call w s₀ s₁ mg mb fa o pm cd doc a vs ns G Y ho (fd_plain hd) jz hmg Nm GF bL hg) λr s' hq=>?_);obtain⟨rfl,h2,h3,h4⟩:=hq;exact⟨.inl ⟨.bool true,.bool true,[],rfl,λ_=>rfl,.bool true,CC l _,λ_=>⟨List.Pairwise.nil,λ_ hm=>(nomatch hm)⟩⟩,h2,h3,h4⟩
section
variable {prog:Program}{w:World}{A:Around}{E:Value->Shared->Prop}{s:Shared}{K:Frag}
theorem Pg 
  (X:K.In s.heap) (hm:makesIn K C=true) (hi:findIn K (.ref C) "__init__" = some (some (.ref fI))) (hf:isFn K (.ref fI)=true)
  (h:codeAny (model prog w) (A.under (.builtin "type.__call__" ⟨.ref C::aD,kw⟩)) (.call (.ref fI) ⟨.ref (s.heap.objs.size+1)::aD,kw⟩) (InitBack (s.heap.objs.size+1) R)
   { s with heap:=(s.heap.push emptyDict).push (instObj C s.heap.objs.size) }):codeAny (model prog w) A (.call (.ref C) ⟨aD,kw⟩) R s:=by
 obtain⟨hh,g,d,t,os⟩:=s;exact make_core (makes_of X hm) (looks_findIn X hi) (λself=>bind_fn X self (beq_iff_eq.mp hf)) (.inl rfl) h
theorem NL 
  (X:K.In s.heap) (I:PySem.W.InstAt s.heap x ox C (some (dictOf es n))) (hg:plainGet K C name=true) (hh:hasDictIn K C=true) (ha:findIn K (.ref C) name=some none)
  (hl:getL name es=some (some v)) (hv:handedIn v=true) (h:Q v { s with toks:=s.toks+1 }):wpAny (model prog w) A (getAttr (.ref x) name expr) Q E s :=
 get_value X I (plainGet_of hg).1 (findObj_own hh ha rfl hl) hv h
def Sv (h:Heap)(L d:Addr):List (Addr×Obj):=(List.range h.objs.size).filterMap λa=>if a=L∨a=d then none else (h.get? a).map λo=>(a,o)
end
end Att
namespace L2
open PySem PySem.Spec PyProof.Rows
theorem gV:∀ {vs:List Value}{ns:List Int},IntsAre vs ns->aW (ns.map V.int) vs
 |_,_,.nil=>.nil
 |_,_,.cons n t h=>.cons ⟨t,rfl⟩ (gV h)
noncomputable def gs (s:Stmt):Arguments:=match s with
 |.FunctionDef _ a _ _ _ _ _ _ _ _=>a
 |_=>{ posonlyargs:=[],args:=[],vararg:=none,kwonlyargs:=[],kw_defaults:=[],kwarg:=none,defaults:=[] }
noncomputable def cK (s:Stmt):List Stmt:=match s with
 |.FunctionDef _ _ b _ _ _ _ _ _ _=>b
 |_=>[]
noncomputable def aP (s:Stmt):Scope:=match s with
 |.FunctionDef _ _ _ _ _ _ sc _ _ _=>sc
 |_=>{ kind:=.function,names:=[],isGenerator:=false,isCoroutine:=false }
abbrev zw:Kb:=λ_ _ _ _ _ _=>False
abbrev E0:XK:=λ_ _ _=>False
theorem Ph:zD zw X E0:=λ_ _ _ _ _ _ _ h=>h.elim
structure Nn (K:PySem.W.Frag)(x qual:Str)(st:Stmt)(f:Addr)(fd:FuncData):Prop where
 ex:∃(oc:Value)(od:Option Addr)(kV doc pm:Value)(an:Option Addr)(eK ct:Value)(oK:Array (Option Value)),
  fd=PySem.W.fnOf x qual (gs st) (cK st) (aP st) .none kV doc pm an eK ct/\K.lookup f=some ⟨oc,od,.func fd,oK⟩/\PySem.W.codeIn K eK qual=true
 kp:PySem.W.keepIn K (.ref f)=true
section
variable {P:Program}{w:World}{K:PySem.W.Frag}{mg:Str->Option Value}{base:Heap}
theorem Nn.ok {x qual:Str}{st:Stmt}{f:Addr}{fd:FuncData}{N ps:List Str}{k:Nat}{sp:Sp}(F:Nn K x qual st f fd)(S:FnScope N ps (aP st))(len:∀vs H Q E,sp vs H Q E->vs.length=ps.length)
  (GD:∀(eK:Value)(A:Around)(outer:List Env)(s:Shared)(H:Hp)(vs:List V)(Q:VK)(E:XK),eV k (A.deeper (envOfC qual (aP st) s.heap.objs.size f eK))->sp vs H Q E ->
   ∃t,uq (oQ zw P w K mg base N qual (aP st) f eK A outer s H E).nox (cK st) t/\t { nx:=λ_ H'=>Q .non H',rt:=Q } (jN N vs) H):sw P w K mg base zw (k+1) f fd ps sp:=by
 obtain⟨oc,od,kV,doc,pm,an,eK,ct,oK,rfl,lk,jz⟩:=F.ex;refine Kc lk jz S len λA outer s H vs Q E hr Oj=>?_;obtain⟨t,h,q⟩:=GD eK A outer s H vs Q E hr Oj;exact⟨t,h.nox,q⟩
theorem Nn.binds {x qual:Str}{st:Stmt}{f:Addr}{fd:FuncData}{ps:List Str}(F:Nn K x qual st f fd)
  (h:∀(kV doc pm:Value)(an:Option Addr)(eK ct:Value)(us:List Value),us.length=ps.length->bindArgs (PySem.W.fnOf x qual (gs st) (cK st) (aP st) .none kV doc pm an eK ct) ⟨us,[]⟩=pure (ps.zip us)):sD K fd ps []:=by
 obtain⟨oc,od,kV,doc,pm,an,eK,ct,oK,rfl,lk,jz⟩:=F.ex;exact .all (h kV doc pm an eK ct)
theorem LV {x qual:Str}{st:Stmt}{f:Addr}{oc:Value}{od an:Option Addr}{oK:Array (Option Value)}{kV doc pm eK ct:Value}(l:K.lookup f=some ⟨oc,od,.func (PySem.W.fnOf x qual (gs st) (cK st) (aP st) .none kV doc pm an eK ct),oK⟩)
  (c:PySem.W.codeIn K eK qual=true) (k:PySem.W.keepIn K (.ref f)=true):Nn K x qual st f (PySem.W.fnOf x qual (gs st) (cK st) (aP st) .none kV doc pm an eK ct):=⟨⟨oc,od,kV,doc,pm,an,eK,ct,oK,rfl,l,c⟩,k⟩
end
def aU (H H':Hp):Prop:=∀b o,H b=some o->H' b=some o
theorem aU.refl (H:Hp):aU H H:=λ_ _ h=>h
theorem aU.trans (a:aU H H1)(b:aU H1 H2):aU H H2:=λc o h=>b c o (a c o h)
theorem aU.free (e:aU H H')(h:H' l=Option.none):H l=Option.none:=by
 cases q:H l with
 |none=>rfl
 |some o=>
  rw[e l o q]at h;cases h
theorem aU.seq {K:PySem.W.Frag}{H H':Hp}{a:Addr}{xs:List V}(e:aU H H')(h:iF K H a xs):iF K H' a xs:=by
 rcases h with (h|⟨o,h⟩)|h
 ·exact .inl (.inl (e _ _ h))
 ·exact .inl (.inr ⟨o,e _ _ h⟩)
 ·exact .inr h
section
variable {κ:Type}[DecidableEq κ]
noncomputable def jZ (aL:List (κ×V))(k:κ):Option V:=(aL.find? λkv=>decide (kv.1=k)).map (·.2)
def ma (aL:List (κ×V))(k:κ)(v:V):List (κ×V) :=
 if(aL.any λkv=>decide (kv.1=k))=true then aL.map (λkv=>if kv.1=k then (kv.1,v)else kv)else aL++[(k,v)]
theorem md {p:κ×V}{r:List (κ×V)}{k:κ}(e:p.1=k):jZ (p::r) k=some p.2:=by simp[jZ,List.find?_cons,e]
theorem mf {p:κ×V}{r:List (κ×V)}{k:κ}(e:¬p.1=k):jZ (p::r) k=jZ r k:=by simp[jZ,List.find?_cons,e]
theorem xc (k:κ):∀aL:List (κ×V),(aL.any λkv=>decide (kv.1=k))=(jZ aL k).isSome
 |[]=>rfl
 |p::r=>by
  rw[List.any_cons];by_cases e:p.1=k
  ·simp only[md e,decide_eq_true e,Bool.true_or,Option.isSome_some]
  ·rw[mf e,decide_eq_false e,Bool.false_or];exact xc k r
theorem kg (aL:List (κ×V))(k:κ)(v:V):(ma aL k v).length<=aL.length+1:=by
 unfold ma;split
 ·rw[vI];omega
 ·rw[uZ,vE,List.length_nil];omega
theorem oP.isSome_eq (r:oP o u):o.isSome=u.isSome:=by
 cases o with
 |none=>cases u with
  |none=>rfl
  |some _=>exact(show False from r).elim
 |some _=>cases u with
  |none=>exact(show False from r).elim
  |some _=>rfl
theorem oP.getD (r:oP o u)(rd:ba d d'):ba (o.getD d) (u.getD d'):=by
 cases o with
 |none=>cases u with
  |none=>exact rd
  |some _=>exact(show False from r).elim
 |some _=>cases u with
  |none=>exact(show False from r).elim
  |some _=>exact r
theorem KV.val {aL:List (κ×V)}{vs:List (κ×Value)}(r:KV aL vs)(k:κ):oP (jZ aL k) (valueAt vs k):=by
 unfold KV at r;induction r with
 |nil=>exact True.intro
 |@cons p q ps qs h t ih=>
  obtain⟨h1,h2⟩:=h;by_cases e:p.1=k
  ·have e':q.1=k:=h1.symm.trans e;have b:valueAt (q::qs) k=some q.2:=by simp[valueAt,List.find?_cons,e']
   rw[md e,b];exact h2
  ·have e':¬q.1=k:=λz=>e (h1.trans z);have b:valueAt (q::qs) k=valueAt qs k:=by simp[valueAt,List.find?_cons,e']
   rw[mf e,b];exact ih
theorem KV.any (r:KV aL vs)(k:κ):(aL.any λkv=>decide (kv.1=k))=vs.any λkv=>decide (kv.1=k):=by
 unfold KV at r;induction r with
 |nil=>rfl
 |cons h t ih=>rw[List.any_cons,List.any_cons,ih,h.1]
theorem KV.repl (r:KV aL vs)(k:κ)(ry:ba y u):
  KV (aL.map λkv=>if kv.1=k then (kv.1,y)else kv) (vs.map λkv=>if kv.1=k then (kv.1,u)else kv):=by
 unfold KV at r ⊢;induction r with
 |nil=>exact .nil
 |@cons p q ps qs h t ih=>
  rw[uY,uY];refine .cons ?_ ih;obtain⟨h1,h2⟩:=h;by_cases e:p.1=k
  ·rw[if_pos e,if_pos (h1.symm.trans e)];exact⟨h1,ry⟩
  ·rw[if_neg e,if_neg (λz=>e (h1.trans z))];exact⟨h1,h2⟩
theorem KV.put (r:KV aL vs)(k:κ)(ry:ba y u):KV (ma aL k y) (stored vs k u):=by
 unfold ma stored;rw[r.any k];by_cases e:(vs.any λkv=>decide (kv.1=k))=true
 ·rw[if_pos e,if_pos e];exact r.repl k ry
 ·rw[if_neg e,if_neg e];exact Paired.snoc r ⟨rfl,ry⟩
theorem KV.length (r:KV aL vs):aL.length=vs.length:=Paired.length r
end
theorem xf (r:ba (kV k) u):(cm P w).is k u=true:=by
 cases k with
 |inl i=>obtain⟨t,e⟩:=(show ∃t,u=Value.int i t from r);subst e;exact wO P w i t
 |inr x=>obtain⟨t,e⟩:=(show ∃t,u=Value.str x t from r);subst e;exact wP P w x t
theorem sO:∀ {ks:List c8}{us:List Value},aW (ks.map kV) us->ItemsAre (cm P w) ks us
 |[],_,r=>by rw[List.map_nil]at r;cases r;exact .nil
 |k::ks,_,r=>by
  rw[uY]at r;cases r with
  |cons h t=>exact .cons (xf h) (sO t)
abbrev KT (H:Hp):List (List c8×V)->List (List c8×Addr×Value)->Prop:=Paired λp q=>p.1=q.1/\H q.2.1=some (.tup (p.1.map kV))/\ba p.2 q.2.2
theorem KT.val {H:Hp}{aL:List (List c8×V)}{xs:List (List c8×Addr×Value)}(r:KT H aL xs)(k:List c8):oP (jZ aL k) ((atKey xs k).map (·.2)):=by
 induction r with
 |nil=>exact True.intro
 |@cons p q ps qs h t ih=>
  obtain⟨h1,_,h2⟩:=h;by_cases e:p.1=k
  ·have e':q.1=k:=h1.symm.trans e;have b:atKey (q::qs) k=some q.2:=by simp[atKey,List.find?_cons,e']
   rw[md e,b];exact h2
  ·have e':¬q.1=k:=λz=>e (h1.trans z);have b:atKey (q::qs) k=atKey qs k:=by simp[atKey,List.find?_cons,e']
   rw[mf e,b];exact ih
theorem KT.repl (r:KT H aL xs)(k:List c8)(ry:ba y u):
  KT H (aL.map λkv=>if kv.1=k then (kv.1,y)else kv) (xs.map (putAt k u)):=by
 induction r with
 |nil=>exact .nil
 |@cons p q ps qs h t ih=>
  rw[uY,uY];refine .cons ?_ ih;obtain⟨h1,h2,h3⟩:=h;unfold putAt;by_cases e:p.1=k
  ·rw[if_pos e,if_pos (h1.symm.trans e)];exact⟨h1,h2,ry⟩
  ·rw[if_neg e,if_neg (λz=>e (h1.trans z))];exact⟨h1,h2,h3⟩
theorem KT.put (r:KT H aL xs)(k:List c8)(hb:H b=some (.tup (k.map kV)))(ry:ba y u):
  KT H (ma aL k y) (storedH xs k b u):=by
 have e:(aL.any λkv=>decide (kv.1=k))=(atKey xs k).isSome:=by
  rw[xc,(r.val k).isSome_eq,Option.isSome_map]
 unfold ma storedH;rw[e];by_cases q:(atKey xs k).isSome=true
 ·rw[if_pos q,if_pos q];exact r.repl k ry
 ·rw[if_neg q,if_neg q];exact Paired.snoc r ⟨rfl,hb,ry⟩
theorem KT.keeps (r:KT H aL xs)(ht:∀b ys,H b=some (.tup ys)->H' b=some (.tup ys)):KT H' aL xs :=
 Paired.mapP r λ_ _ z=>⟨z.1,ht _ _ z.2.1,z.2.2⟩
section
variable {P:Program}{w:World}{H:Hp}{h:Heap}{a:Addr}
theorem Ke (ok:lb P w H h)(e:Rd H a u):bO P w H h a u:=e.ok ok
theorem zL (ok:lb P w H h)(e:H a=some (.dK aL ob)):h.get? a=some ob:=And.left (show bO P w H h a (.dK aL ob)from ok a _ e)
theorem AQ (ok:lb P w H h)(e:Rd H a (.dK aL ob)):aL.length<=sizeLine/\(a == sysModules)=false/\∃vs,KV aL vs/\h.DictOf (cm P w) a vs :=
 And.right (show bO P w H h a (.dK aL ob)from Ke ok e)
theorem pA (ok:lb P w H h)(e:H a=some (.dK aL ob)):aL.length<=sizeLine/\(a == sysModules)=false/\∃vs,KV aL vs/\h.DictOf (cm P w) a vs:=AQ ok (.inl e)
theorem uA (ok:lb P w H h)(e:H a=some (.tup (ks.map kV))):(tupleKind (cm P w)).is h ks a:=by
 obtain⟨_,its,r,o,h1,h2,n,h3⟩:=(show bO P w H h a (.tup (ks.map kV))from ok a _ e);exact⟨o,its.toArray,n,h1,h2,h3,by simpa using sO r⟩
theorem AR (ok:lb P w H h)(e:Rd H a (.dT aL)):aL.length<=sizeLine/\(a == sysModules)=false /\
  ∃xs,KT H aL xs/\h.DictOfH (tupleKind (cm P w)) a xs:=by
 obtain⟨z,y,xs,r,o,es,ep,h1,h2,h3,h4,h5⟩:=(show bO P w H h a (.dT aL)from Ke ok e);refine⟨z,y,xs,r,o,es,ep,h1,h2,h3,h4,λx hx=>?_,h5⟩;have all:∀ {l:List (List c8×V)}{m:List (List c8×Addr×Value)},KT H l m->∀x∈m,(tupleKind (cm P w)).is h x.1 x.2.1:=by
  intro l m q;induction q with
  |nil=>intro x hx;exact nomatch hx
  |@cons p q ps qs hq t ih=>
   intro x hx;rcases vP hx with e|hx
   ·subst e;exact uA ok (by rw[←hq.1];exact hq.2.1)
   ·exact ih x hx
 exact all r x hx
theorem Pj (ok:lb P w H h)(e:H a=some (.dT aL)):aL.length<=sizeLine/\(a == sysModules)=false /\
  ∃xs,KT H aL xs/\h.DictOfH (tupleKind (cm P w)) a xs:=AR ok (.inl e)
end
def CD (H:Hp)(a:Addr)(y:V)(r:Option V):Prop :=
 (∃aL k ob,Rd H a (.dK aL ob)/\y=kV k/\r=jZ aL k)∨∃aL k b,Rd H a (.dT aL)/\y=.ref b/\H b=some (.tup (k.map kV))/\r=jZ aL k
def Pk (H:Hp)(a:Addr)(y v:V)(Q:Hp->Prop):Prop :=
 (∃aL k ob,H a=some (.dK aL ob)/\y=kV k/\aL.length<sizeLine/\∀Tt,Q (upd H a (.dK (ma aL k v) Tt))) ∨
 ∃aL k b,H a=some (.dT aL)/\y=.ref b/\H b=some (.tup (k.map kV))/\aL.length<sizeLine/\Q (upd H a (.dT (ma aL k v)))
theorem CD.t (e:H a=some (.dT aL))(eb:H b=some (.tup (k.map kV))):CD H a (.ref b) (jZ aL k):=.inr ⟨aL,k,b,.inl e,rfl,eb,rfl⟩
section
variable {X:Cx}{ae:List (Addr×Obj)}{σ:St}{H:Hp}{s:Shared}{a:Addr}{y v:V}{u r:Value}{o:Option V}{A:Around}{E:Value->Shared->Prop}
theorem Inv.big (I:Inv X ae σ H s):sysModules<s.heap.objs.size:=by
 have h:mainGlobals<s.heap.objs.size:=(I.mod.glob.keeps I.bk).lt;exact Nat.lt_trans (by decide) h
theorem Sw (hu:A.units+1<cLine)(I:Inv X ae σ H s)(g:CD H a y o)(ry:ba y u)(h:∀s',Inv X ae σ H s'->Q (.bool o.isSome) s'):
  wpAny (model X.prog X.w) A (compareOp .In u (.ref a)) Q E s:=by
 rcases g with⟨aL,k,ob,e,ey,l⟩|⟨aL,k,b,e,ey,eb,l⟩
 ·subst ey;obtain⟨z,hd,vs,wN,dd⟩:=AQ I.hok e;refine wpAny_in_of (xf ry) hd dd.mapOf ?_;rw[←(wN.val k).isSome_eq,←l];exact h _ (I.tok _)
 ·subst ey;cases (show u=Value.ref b from ry)
  obtain⟨z,hd,xs,wN,dd⟩:=AR I.hok e;refine wpAny_in_heap (tupleKind_room_in1 hu) (uA I.hok eb) hd dd ?_;have q:=(wN.val k).isSome_eq;rw[Option.isSome_map]at q;rw[←q,←l];exact h _ (I.tok _)
theorem uB (I:Inv X ae σ H s)(mu:O8 (H a))(hs:Heap.SameBut a s.heap h')(he:∃q,h'.get? a=some q)(new:bO X.prog X.w (upd H a ob) h' a ob):
  Inv X ae σ (upd H a ob) { s with heap:=h',toks:=t' } :=
 I.write (x:=a) (e:=a) mu (.inl rfl) (λb q hb z=>(hs.2 b hb).trans z) he new
theorem Ep (z:aL.length<=sizeLine)(hd:(a == sysModules)=false)(wN:KV aL vs)(dd:h'.DictOf (cm P w) a vs)(hg:h'.get? a=some ob):
  bO P w H' h' a (.dK aL ob):=⟨hg,z,hd,vs,wN,dd⟩
theorem CF (hu:A.units+1<cLine)(I:Inv X ae σ H s)(g:Pk H a y v R)(ry:ba y u)(rv:ba v r)(h:∀H' s',R H'->Inv X ae σ H' s'->Q () s'):
  wpAny (model X.prog X.w) A (setItem (.ref a) u r) Q E s:=by
 rcases g with⟨aL,k,ob,e,ey,l,eH⟩|⟨aL,k,b,e,ey,eb,l,eH⟩
 ·subst ey;obtain⟨z,hd,vs,wN,dd⟩:=pA I.hok e;have hz:vs.length<=sizeLine:=by rw[←wN.length];exact z
  have hl:(ma aL k v).length<=sizeLine:=by have:=kg aL k v;omega
  refine wpAny_setItem_pairs (hsz:=hz) (xf ry) dd λh' J9 hs=>?_;obtain⟨q,hq⟩:∃q,h'.get? a=some q:=let ⟨q,_,_,hq,_⟩:=J9;⟨q,hq⟩;exact h _ _ (eH q) (uB I (by rw[e];exact True.intro) hs ⟨q,hq⟩ (Ep hl hd (wN.put k rv) J9 hq))
 ·subst ey;cases (show u=Value.ref b from ry)
  obtain⟨z,hd,xs,wN,dd⟩:=Pj I.hok e;have hz:xs.length<=sizeLine:=by rw[←Paired.length wN];exact z
  have hl:(ma aL k v).length<=sizeLine:=by have:=kg aL k v;omega
  refine wpAny_setItem_heap (hsz:=hz) (tupleKind_room_in1 hu) (uA I.hok eb) dd λh' J9 hs=>h _ _ eH ?_;obtain⟨q,es,ep,hq,h2,h3,h4,_,h5⟩:=J9;refine uB I (by rw[e];exact True.intro) hs ⟨q,hq⟩ ⟨hl,hd,_,(wN.put k eb rv).keeps λc ys ec=>?_,q,es,ep,hq,h2,h3,h4,h5⟩;rw[aI (O7 ec e (λz=>nomatch z))];exact ec
end
def Sx (ty td:TE):TE:=λσ H Q=>ty σ H λy H1=>td σ H1 λx H2=>∃a o,x=.ref a/\CD H2 a y o/\Q (.bl o.isSome) H2
def AS (td ty tv:TE):TS:=λD σ H=>tv σ H λv H1=>td σ H1 λx H2=>ty σ H2 λy H3=>∃a,x=.ref a/\Pk H3 a y v (D.nx σ)
section
variable {X:Cx}{o i e value:Expr}{pos zh DC:Pos}{td ty tv:TE}
theorem LW (hu:X.A.units+1<cLine)(hi:PE X i ty)(ho:PE X o td):PC X .In i o (Sx ty td):=by
 intro ae s σ H Q I h;refine cV (hi ae s σ H _ I h) λiv s1 ⟨y,H1,I1,ry,q1⟩=>cV (ho ae s1 σ H1 _ I1 q1) λu s2 ⟨x,H2,I2,rx,a,ov,ex,g,q2⟩=>?_;subst ex;obtain rfl:u=Value.ref a:=rx;exact Sw hu I2 g ry λs3 I3=>⟨.bl ov.isSome,H2,I3,rfl,q2⟩
theorem uC (hu:X.A.units+1<cLine)(ho:PE X o td)(hi:PE X i ty)(hv:PE X value tv)(hs:swapsWith value (some (.Subscript o i zh)) pos.line X.env=pure false):
  PS X (.Assign [.Subscript o i zh] value pos) (AS td ty tv):=by
 intro ae s σ H D I h;refine wpAny_Assign_Subscript (cV (hv ae s σ H _ I h) λr s1 ⟨v,H1,I1,rv,q1⟩=>cV (ho ae s1 σ H1 _ I1 q1) λu s2 ⟨x,H2,I2,rx,q2⟩=>cV (hi ae s2 σ H2 _ I2 q2) λiv s3 ⟨y,H3,I3,ry,a,ex,g⟩=>?_) hs;subst ex;obtain rfl:u=Value.ref a:=rx;exact CF hu I3 g ry rv λH4 s4 q3 I4=>⟨σ,H4,I4,q3⟩
end
theorem xg (h:Heap)(hb:sysModules<h.objs.size):bO P w H (h.push { cls:=.type "dict",data:=.dict #[] }) h.objs.size (.dK [] { cls:=.type "dict",data:=.dict #[] }) :=
 ⟨vY _ rfl,uN _,beq_eq_false_iff_ne.mpr (Ne.symm (vS hb)),[],.nil,Heap.DictOf.new h⟩
theorem Er (h:Heap)(hb:sysModules<h.objs.size):bO P w H (h.push { cls:=.type "dict",data:=.dict #[] }) h.objs.size (.dT []) :=
 ⟨uN _,beq_eq_false_iff_ne.mpr (Ne.symm (vS hb)),[],.nil,_,#[],0,vY _ rfl,⟨rfl,rfl,rfl⟩,rfl,rfl,List.nodup_nil⟩
def Es:TE:=λ_ H Q=>∀p ob,H p=none->Q (.ref p) (upd H p (.dK [] ob))
def Et:TE:=λ_ H Q=>∀p,H p=none->Q (.ref p) (upd H p (.dT []))
section
variable {X:Cx}{pos:Pos}
theorem Eu:PE X (.Dict [] [] pos) Es:=λae s σ H Q I h=>
 wpAny_Dict_empty ⟨.ref s.heap.objs.size,_,I.laid (a:=s.heap.objs.size) (o:=.dK [] { cls:=.type "dict",data:=.dict #[] }) (t':=s.toks) (λ_ _ q=>vZ _ q) (vT _) (xg s.heap I.big),rfl,h _ _ (I.hok.fresh (vT _))⟩
theorem Ev:PE X (.Dict [] [] pos) Et:=λae s σ H Q I h=>
 wpAny_Dict_empty ⟨.ref s.heap.objs.size,_,I.laid (a:=s.heap.objs.size) (o:=.dT []) (t':=s.toks) (λ_ _ q=>vZ _ q) (vT _) (Er s.heap I.big),rfl,h _ (I.hok.fresh (vT _))⟩
end
structure M1 (X:Cx)(o:Expr)(m:Str)(dC:Pos)(e:Expr)(cG:Pos):Prop where
 base:attributeBase o m X.env (eval o X.env)=eval o X.env
 few:((backTo cG (starEach [e] X.env)).all (λx=>!x.1) && (backToKw cG (keywordEach [] X.env)).all (λx=>x.1.isSome)
  && decide (([e]:List Expr).length+([]:List Keyword).length+(if([]:List Keyword).isEmpty then 0 else 1)<30))=true
 line:(dC.endLine == cG.line)=true
 trees:backTo cG (starEach [e] X.env)=[(false,eval e X.env)]
def UF (H:Hp)(a:Addr):Prop:=(∃aL ob,Rd H a (.dK aL ob))∨∃aL,Rd H a (.dT aL)
theorem LX (I:Inv X ae σ H s)(d:UF H a):
  s.TypeIs (.ref a) "dict"/\(∀b,Value.ref a=.ref b->∃ob,s.heap.get? b=some ob/\ob.dict=none)/\(a == sysModules)=false:=by
 rcases d with⟨aL,Vh,e⟩|⟨aL,e⟩
 ·obtain⟨_,hd,vs,_,dd⟩:=AQ I.hok e;refine⟨dd.typeIs,λb q=>?_,hd⟩;cases q
  obtain⟨ob,_,_,h1,h2,_⟩:=dd;exact⟨ob,h1,h2.2.1⟩
 ·obtain⟨_,hd,xs,_,dd⟩:=AR I.hok e;refine⟨dd.typeIs,λb q=>?_,hd⟩;cases q
  obtain⟨ob,_,_,h1,h2,_⟩:=dd;exact⟨ob,h1,h2.2.1⟩
section
variable {X:Cx}{ae:List (Addr×Obj)}{σ:St}{H:Hp}{s:Shared}{a:Addr}{y d:V}{u r:Value}{o:Option V}{A:Around}{E:Value->Shared->Prop}
theorem LY (hu:A.units+1<cLine)(I:Inv X ae σ H s)(g:CD H a y o)(ry:ba y u)(h:∀w' s',Inv X ae σ H s'->ba (o.getD .non) w'->Q w' s'):
  wpAny (model X.prog X.w) A (call (.builtin "dict.get") [.ref a,u]) Q E s:=by
 rcases g with⟨aL,k,ob,e,ey,l⟩|⟨aL,k,b,e,ey,eb,l⟩
 ·subst ey;obtain⟨z,hd,vs,wN,dd⟩:=AQ I.hok e;refine call_meetsIn PySem.F.slot_dict_get dd.typeIs PySem.F.entry_dict_get (PySem.F.args_dict_get_2 _ _) (meets_dict_get (cm X.prog X.w) a (xf ry) hd) ⟨_,dd.mapOf,h _ _ (I.tok _) ?_⟩;rw[l];exact(wN.val k).getD rfl
 ·subst ey;cases (show u=Value.ref b from ry)
  obtain⟨z,hd,xs,wN,dd⟩:=AR I.hok e;refine call_meetsIn PySem.F.slot_dict_get dd.typeIs PySem.F.entry_dict_get (PySem.F.args_dict_get_2 _ _) (meetsH_dict_get (tupleKind (cm X.prog X.w)) a b hd) ⟨tupleKind_room_in1 hu,k,xs,uA I.hok eb,dd,h _ _ (I.tok _) ?_⟩;rw[l];exact(wN.val k).getD rfl
end
def LZ (td ty:TE):TE:=λσ H Q=>td σ H λx H1=>∃a,x=.ref a/\UF H1 a/\ty σ H1 λy H2=>∃o,CD H2 a y o/\Q (o.getD .non) H2
section
variable {X:Cx}{o e f:Expr}{dC cG:Pos}{td ty tx:TE}
theorem xh (hu:X.A.units+1<cLine)(ho:PE X o td)(he:PE X e ty)(m:M1 X o "get" dC e cG):PE X (.Call (.Attribute o "get" dC) [e] [] cG) (LZ td ty):=by
 intro ae s σ H Q I h;refine wpAny_Call_method m.base m.few m.line PySem.F.plainAttrs_dict PySem.F.slot_dict_get PySem.F.type_dict_get (cV (ho ae s σ H _ I h) λu s1 ⟨x,H1,I1,rx,a,ex,d,q1⟩=>?_);subst ex;obtain rfl:u=Value.ref a:=rx;obtain⟨t1,t2,_⟩:=LX I1 d;refine⟨t1,t2,?_⟩;rw[m.trees];refine Calls.callWith_builtin rfl (Calls.evalArgs_plain (Calls.spliced_cons (cV (he ae s1 σ H1 _ I1 q1) λiv s2 ⟨y,H2,I2,ry,ov,g,q2⟩=>Calls.spliced_nil ?_)));exact LY hu I2 g ry λw' s3 I3 Qk=>⟨_,H2,I3,Qk,q2⟩
end
end L2
namespace DL
open PySem L2
set_option linter.all false
abbrev St:=L2.St
inductive D where
 |non|bl (b:Bool)|int (i:Int)|str (x:Str)|ty (n:String)|tup (ds:List D)|lst (ds:List D)
  |dk (ks:List c8) (vs:List D)|dt (ks:List (List c8)) (vs:List D)
mutual
inductive Is (K:PySem.W.Frag)(H:Hp):V->D->Prop where
 |non:Is K H .non .non
 |bl (b:Bool):Is K H (.bl b) (.bl b)
 |int (i:Int):Is K H (.int i) (.int i)
 |str (x:Str):Is K H (.str x) (.str x)
 |ty (n:String):Is K H (.ty n) (.ty n)
 |tup {a:Addr}{vs:List V}{ds:List D}(h:jf K H a vs) (hs:IsL K H vs ds):Is K H (.ref a) (.tup ds)
 |lst {a:Addr}{vs:List V}{ds:List D}(h:iF K H a vs) (hs:IsL K H vs ds):Is K H (.ref a) (.lst ds)
 |dk {a:Addr}{ks:List c8}{vs:List V}{ds:List D}{ob:Obj}(h:H a=some (.dK (ks.zip vs) ob)) (hl:ks.length=vs.length) (hs:IsL K H vs ds):Is K H (.ref a) (.dk ks ds)
 |dt {a:Addr}{ks:List (List c8)}{vs:List V}{ds:List D}(h:H a=some (.dT (ks.zip vs))) (hl:ks.length=vs.length) (hs:IsL K H vs ds):Is K H (.ref a) (.dt ks ds)
inductive IsL (K:PySem.W.Frag)(H:Hp):List V->List D->Prop where
 |nil:IsL K H [] []
 |cons {v:V}{d:D}{vs:List V}{ds:List D}(h:Is K H v d) (hs:IsL K H vs ds):IsL K H (v::vs) (d::ds)
end
mutual
def bv:D->Bool
 |.lst _=>false
 |.dk _ _=>false
 |.dt _ _=>false
 |.tup ds=>bz ds
 |_=>true
def bz:List D->Bool
 |[]=>true
 |d::ds=>bv d && bz ds
end
@[simp] theorem NM:bv .non=true:=by simp only[bv]
@[simp] theorem Pl (b:Bool):bv (.bl b)=true:=by simp only[bv]
@[simp] theorem NN (i:Int):bv (.int i)=true:=by simp only[bv]
@[simp] theorem NO (x:Str):bv (.str x)=true:=by simp only[bv]
@[simp] theorem Pm (x:String):bv (.ty x)=true:=by simp only[bv]
@[simp] theorem NP (ds:List D):bv (.tup ds)=bz ds:=by rw[bv]
@[simp] theorem NQ (ds:List D):bv (.lst ds)=false:=by rw[bv]
@[simp] theorem Pn (ks:List c8)(ds:List D):bv (.dk ks ds)=false:=by rw[bv]
@[simp] theorem Po (ks:List (List c8))(ds:List D):bv (.dt ks ds)=false:=by rw[bv]
@[simp] theorem Ma:bz []=true:=by rw[bz]
@[simp] theorem Kf (d:D)(ds:List D):bz (d::ds)=(bv d && bz ds):=by rw[bz]
section
variable {K:PySem.W.Frag}{H H':Hp}
mutual
theorem Is.keep (hT:∀a vs,jf K H a vs->jf K H' a vs)(hL:∀a vs,iF K H a vs->iF K H' a vs)(hK:∀a aL ob,H a=some (.dK aL ob)->H' a=some (.dK aL ob))(hM:∀a aL,H a=some (.dT aL)->H' a=some (.dT aL)):∀ {v:V}{d:D},Is K H v d->Is K H' v d
 |_,_,.non=>.non
 |_,_,.bl b=>.bl b
 |_,_,.int i=>.int i
 |_,_,.str x=>.str x
 |_,_,.ty x=>.ty x
 |_,_,.tup h hs=>.tup (hT _ _ h) (IsL.keep hT hL hK hM hs)
 |_,_,.lst h hs=>.lst (hL _ _ h) (IsL.keep hT hL hK hM hs)
 |_,_,.dk h hl hs=>.dk (hK _ _ _ h) hl (IsL.keep hT hL hK hM hs)
 |_,_,.dt h hl hs=>.dt (hM _ _ h) hl (IsL.keep hT hL hK hM hs)
theorem IsL.keep (hT:∀a vs,jf K H a vs->jf K H' a vs)(hL:∀a vs,iF K H a vs->iF K H' a vs)(hK:∀a aL ob,H a=some (.dK aL ob)->H' a=some (.dK aL ob))(hM:∀a aL,H a=some (.dT aL)->H' a=some (.dT aL)):∀ {vs:List V}{ds:List D},IsL K H vs ds->IsL K H' vs ds
 |_,_,.nil=>.nil
 |_,_,.cons h hs=>.cons (Is.keep hT hL hK hM h) (IsL.keep hT hL hK hM hs)
end
mutual
theorem Is.keepT (hT:∀a vs,jf K H a vs->jf K H' a vs):∀ {v:V}{d:D},Is K H v d->bv d=true->Is K H' v d
 |_,_,.non,_=>.non
 |_,_,.bl b,_=>.bl b
 |_,_,.int i,_=>.int i
 |_,_,.str x,_=>.str x
 |_,_,.ty x,_=>.ty x
 |_,_,.tup h hs,n=>.tup (hT _ _ h) (IsL.keepT hT hs (by simpa using n))
 |_,_,.lst h hs,n=>by simp at n
 |_,_,.dk h hl hs,n=>by simp at n
 |_,_,.dt h hl hs,n=>by simp at n
theorem IsL.keepT (hT:∀a vs,jf K H a vs->jf K H' a vs):∀ {vs:List V}{ds:List D},IsL K H vs ds->bz ds=true->IsL K H' vs ds
 |_,_,.nil,_=>.nil
 |_,_,.cons h hs,n=>by
  simp at n;exact .cons (Is.keepT hT h n.1) (IsL.keepT hT hs n.2)
end
theorem bo (e:aU H H')(h:jf K H a xs):jf K H' a xs:=by
 rcases h with (h|⟨o,h⟩)|h
 ·exact .inl (.inl (e _ _ h))
 ·exact .inl (.inr ⟨o,e _ _ h⟩)
 ·exact .inr h
theorem Is.mono (h:Is K H v d)(e:aU H H'):Is K H' v d:=h.keep (λ_ _=>bo e) (λ_ _=>e.seq) (λ_ _ _ q=>e _ _ q) λ_ _ q=>e _ _ q
theorem IsL.mono (h:IsL K H v d)(e:aU H H'):IsL K H' v d:=h.keep (λ_ _=>bo e) (λ_ _=>e.seq) (λ_ _ _ q=>e _ _ q) λ_ _ q=>e _ _ q
theorem IsL.length:∀ {vs:List V}{ds:List D},IsL K H vs ds->vs.length=ds.length
 |_,_,.nil=>rfl
 |_,_,.cons _ t=>congrArg (· + 1) t.length
theorem IsL.get:∀ {vs:List V}{ds:List D}{i:Nat}{d:D},IsL K H vs ds->ds[i]? = some d->∃v,vs[i]? = some v/\Is K H v d
 |_,_,_,_,.nil,e=>by simp at e
 |_,_,0,_,.cons h _,e=>by simp at e;subst e;exact⟨_,rfl,h⟩
 |_,_,i+1,d,.cons _ t,e=>by
  obtain⟨u,h1,h2⟩:=t.get (i:=i) (d:=d) (by simpa using e);exact⟨u,by simpa using h1,h2⟩
theorem IsL.append:∀ {vs ws:List V}{ds es:List D},IsL K H vs ds->IsL K H ws es->IsL K H (vs++ws) (ds++es)
 |_,_,_,_,.nil,s=>s
 |_,_,_,_,.cons r t,s=>.cons r (t.append s)
theorem IsL.take:∀ {vs:List V}{ds:List D}(n:Nat),IsL K H vs ds->IsL K H (vs.take n) (ds.take n)
 |_,_,0,_=>by simpa using IsL.nil
 |_,_,_+1,.nil=>.nil
 |_,_,n+1,.cons r t=>.cons r (t.take n)
theorem IsL.drop:∀ {vs:List V}{ds:List D}(n:Nat),IsL K H vs ds->IsL K H (vs.drop n) (ds.drop n)
 |_,_,0,r=>r
 |_,_,_+1,.nil=>.nil
 |_,_,n+1,.cons _ t=>t.drop n
theorem IsL.set (h:Is K H v d):∀ {vs:List V}{ds:List D}(i:Nat),IsL K H vs ds->IsL K H (vs.set i v) (ds.set i d)
 |_,_,_,.nil=>.nil
 |_,_,0,.cons _ t=>.cons h t
 |_,_,i+1,.cons r t=>.cons r (IsL.set h i t)
theorem IsL.eraseIdx:∀ {vs:List V}{ds:List D}(i:Nat),IsL K H vs ds->IsL K H (vs.eraseIdx i) (ds.eraseIdx i)
 |_,_,_,.nil=>.nil
 |_,_,0,.cons _ t=>t
 |_,_,i+1,.cons r t=>.cons r (t.eraseIdx i)
theorem IsL.flat {vs:List V}{ns:List Int}(h:vs=ns.map V.int):IsL K H vs (ns.map D.int):=by
 subst h;induction ns with
 |nil=>exact .nil
 |cons n ns ih=>exact .cons (.int n) ih
end
structure Ext (B N H H':Hp):Prop where
 hh:aU H H'
 bn:aU B N
 nh:aU N H'
 new:∀a o,N a=some o->B a=some o∨H a=none
theorem Ext.refl (h:aU B H):Ext B B H H:=⟨.refl _,.refl _,h,λ_ _ e=>.inl e⟩
theorem Ext.trans (x:Ext B N H H1)(y:Ext N N2 H1 H2):Ext B N2 H H2 :=
 ⟨x.hh.trans y.hh,x.bn.trans y.bn,y.nh,λa o e=>(y.new a o e).elim (λq=>x.new a o q) λq=>.inr (x.hh.free q)⟩
theorem Ext.laid (h:aU B H)(hp:H p=none):Ext B (upd B p o) H (upd H p o):=by
 have hB:B p=none:=h.free hp;refine⟨λa u e=>?_,λa u e=>?_,λa u e=>?_,λa u e=>?_⟩
 ·rw[aI (λq=>by subst q;rw[hp]at e;cases e)];exact e
 ·rw[aI (λq=>by subst q;rw[hB]at e;cases e)];exact e
 ·by_cases q:a=p
  ·subst q;rw[aE]at e ⊢;exact e
  ·rw[aI q]at e ⊢;exact h _ _ e
 ·by_cases q:a=p
  ·subst q;exact .inr hp
  ·rw[aI q]at e;exact .inl e
theorem Ext.grow (h:aU B H)(hh:aU H H'):Ext B B H H':=⟨hh,.refl _,h.trans hh,λ_ _ e=>.inl e⟩
abbrev Env:=List (Option (D×Bool))
abbrev FE:=Env->Option (D×Bool)
abbrev FA:=Env->Option (List D)
abbrev FT:=Env->Option Bool
def NR (K:PySem.W.Frag)(H N:Hp)(v:V)(d:D):Prop:=∃(a:Addr)(vs:List V)(ds:List D),v=.ref a/\d=.lst ds/\H a=none/\N a=some (.lst vs)/\IsL K N vs ds
theorem NR.back (h:NR K H' N v d)(e:aU H H'):NR K H N v d:=let ⟨a,vs,ds,q,y,z,r⟩:=h;⟨a,vs,ds,q,y,e.free z,r⟩
noncomputable def mh:List Str:=["in_order","has_seal","is_first_death","bases_by"]
noncomputable def pB (x:Str):Str:=x ++ ".<locals>." ++ "<lambda>"
def Tb (K:PySem.W.Frag)(B:Hp):Prop:=∀x∈mh,∀c P,PySem.W.tabIn K x=some (c,P)->B P=some (.tbl (pB x))
theorem Tb.mono (h:Tb K B)(e:aU B B'):Tb K B':=λx hx c P q=>e _ _ (h x hx c P q)
structure fE (K:PySem.W.Frag)(B:Hp)(σ:St)(ρ:Env):Prop where
 tb:Tb K B
 at':∀(i:Nat)(d:D)(b:Bool),ρ[i]? = some (some (d,b))->∃v,σ[i]? = some (some v)/\Is K B v d
theorem fE.mono (h:fE K B σ ρ)(e:aU B B'):fE K B' σ ρ:=⟨h.tb.mono e,λi d b q=>let ⟨v,h1,h2⟩:=h.at' i d b q;⟨v,h1,h2.mono e⟩⟩
def Fin (K:PySem.W.Frag)(B H:Hp)(d:D)(b:Bool)(Q:VK):Prop:=∀(v:V)(H' N:Hp),Ext B N H H'->Is K N v d->(b=true->NR K H N v d)->Q v H'
def tD (K:PySem.W.Frag)(f:FE):TE:=λσ H Q=>∃(B:Hp)(ρ:Env)(d:D)(b:Bool),aU B H/\fE K B σ ρ/\f ρ=some (d,b)/\Fin K B H d b Q
def CG (K:PySem.W.Frag)(f:FT):TT:=λσ H Q=>∃(B:Hp)(ρ:Env)(c:Bool),aU B H/\fE K B σ ρ/\f ρ=some c/\∀H',aU H H'->Q c H'
def NS (K:PySem.W.Frag)(f:FA):TA:=λσ H Q=>∃(B:Hp)(ρ:Env)(ds:List D),aU B H/\fE K B σ ρ/\f ρ=some ds/\∀(vs:List V)(H' N:Hp),Ext B N H H'->IsL K N vs ds->Q vs H'
def rD (K:PySem.W.Frag)(op:D->D->Option (D×Bool)):R2:=λx y H Q=>∃(B:Hp)(dx dy d:D)(b:Bool),aU B H/\Is K B x dx/\Is K B y dy/\op dx dy=some (d,b)/\Fin K B H d b Q
def Sy (K:PySem.W.Frag)(op:D->Option (D×Bool)):V->Hp->VK->Prop:=λx H Q=>∃(B:Hp)(dx d:D)(b:Bool),aU B H/\Is K B x dx/\op dx=some (d,b)/\Fin K B H d b Q
def zM (K:PySem.W.Frag)(op:List D->Option (D×Bool)):List V->Hp->VK->Prop:=λxs H Q=>∃(B:Hp)(ds:List D)(d:D)(b:Bool),aU B H/\IsL K B xs ds/\op ds=some (d,b)/\Fin K B H d b Q
theorem Fin.one (h:Fin K B H d false Q)(s:aU B H)(i:Is K B v d):Q v H:=h v H B (.refl s) i (by simp)
theorem Fin.into (h:Fin K B H d b Q)(x:Ext B N H H1):Fin K N H1 d b Q:=λv H' N' y i fr=>h v H' N' (x.trans y) i λe=>(fr e).back x.hh
@[simp] noncomputable def fC (d:D):FE:=λ_=>some (d,false)
@[simp] noncomputable def aj (i:Nat):FE:=λρ=>match ρ[i]? with|some (some (d,_))=>some (d,false)|_=>none
@[simp] noncomputable def f2 (op:D->D->Option (D×Bool))(fa fb:FE):FE:=λρ=>(fa ρ).bind λx=>(fb ρ).bind λy=>op x.1 y.1
@[simp] noncomputable def f1 (op:D->Option (D×Bool))(fa:FE):FE:=λρ=>(fa ρ).bind λx=>op x.1
@[simp] noncomputable def ai:FA:=λ_=>some []
@[simp] noncomputable def af (fa:FE)(fr:FA):FA:=λρ=>(fa ρ).bind λx=>(fr ρ).bind λxs=>some (x.1::xs)
@[simp] noncomputable def fA (op:List D->Option (D×Bool))(fa:FA):FE:=λρ=>(fa ρ).bind op
theorem Mb (h:tD K (aj i) σ H Q):∃v,σ[i]? = some (some v)/\Q v H:=by
 obtain⟨B,ρ,d,b,s,r,e,q⟩:=h;unfold aj at e;split at e
 ·rename_i d' b' e';cases e
  obtain⟨v,h1,h2⟩:=r.at' i _ _ e';exact⟨v,h1,q.one s h2⟩
 ·cases e
theorem HN (h:tD K (f2 op fa fb) σ H Q):tD K fa σ H λx H1=>tD K fb σ H1 λy H2=>rD K op x y H2 Q:=by
 obtain⟨B,ρ,d,b,s,r,e,q⟩:=h;obtain⟨x,ex,e⟩:=oX e;obtain⟨y,ey,e⟩:=oX e;refine⟨B,ρ,x.1,x.2,s,r,ex,λv H1 N x1 i1 _=>⟨N,ρ,y.1,y.2,x1.nh,r.mono x1.bn,ey,λv2 H2 N2 x2 i2 _=>⟨N2,x.1,y.1,d,b,x2.nh,i1.mono x2.bn,i2,e,?_⟩⟩⟩;exact q.into (x1.trans x2)
theorem Sz (h:tD K (f1 op fa) σ H Q):tD K fa σ H λx H1=>Sy K op x H1 Q:=by
 obtain⟨B,ρ,d,b,s,r,e,q⟩:=h;obtain⟨x,ex,e⟩:=oX e;exact⟨B,ρ,x.1,x.2,s,r,ex,λv H1 N x1 i1 _=>⟨N,x.1,d,b,x1.nh,i1,e,q.into x1⟩⟩
theorem HP (h:tD K (fA op fa) σ H Q):NS K fa σ H λxs H1=>zM K op xs H1 Q:=by
 obtain⟨B,ρ,d,b,s,r,e,q⟩:=h;obtain⟨x,ex,e⟩:=oX e;exact⟨B,ρ,x,s,r,ex,λv H1 N x1 i1=>⟨N,x,d,b,x1.nh,i1,e,q.into x1⟩⟩
theorem HQ (h:NS K ai σ H Q):Q [] H:=by
 obtain⟨B,ρ,ds,s,r,e,q⟩:=h;cases e
 exact q [] H B (.refl s) .nil
theorem Ew (h:NS K (af fa fr) σ H Q):tD K fa σ H λx H1=>NS K fr σ H1 λxs H2=>Q (x::xs) H2:=by
 obtain⟨B,ρ,ds,s,r,e,q⟩:=h;obtain⟨x,ex,e⟩:=oX e;obtain⟨y,ey,e⟩:=oX e;cases e
 exact⟨B,ρ,x.1,x.2,s,r,ex,λv H1 N x1 i1 _=>⟨N,ρ,y,x1.nh,r.mono x1.bn,ey,λvs H2 N2 x2 i2=>q _ H2 N2 (x1.trans x2) (.cons (i1.mono x2.bn) i2)⟩⟩
@[simp] noncomputable def bw (f:FE):FT:=λρ=>match f ρ with|some (.bl c,_)=>some c|_=>none
@[simp] noncomputable def eE (f g:FT):FT:=λρ=>match f ρ with|some true=>g ρ|some false=>some false|none=>none
@[simp] noncomputable def j3 (f g:FT):FT:=λρ=>match f ρ with|some true=>some true|some false=>g ρ|none=>none
@[simp] noncomputable def fz (f:FT):FT:=λρ=>(f ρ).map (!·)
@[simp] noncomputable def Zf (c:FT)(f g:FE):FE:=λρ=>match c ρ with|some true=>f ρ|some false=>g ρ|none=>none
open Classical in
noncomputable def dL (H:Hp)(P:Addr->Prop):Hp:=λa=>if P a then none else H a
theorem cO (h:¬P a):dL H P a=H a:=by unfold dL;rw[if_neg h]
theorem zN (h:P a):dL H P a=none:=by unfold dL;rw[if_pos h]
theorem pC (h:dL H P a=some o):¬P a/\H a=some o:=by
 by_cases q:P a
 ·rw[zN q]at h;cases h
 ·rw[cO q]at h;exact⟨q,h⟩
theorem bQ:aU (dL H P) H:=λ_ _ e=>(pC e).2
theorem eN (e:∀a o,H a=some o->¬P a->H' a=some o/\¬P' a):aU (dL H P) (dL H' P'):=λa o q=>by
 obtain⟨h1,h2⟩:=pC q;obtain⟨h3,h4⟩:=e a o h2 h1;rw[cO h4];exact h3
noncomputable def join (N N':Hp):Hp:=λa=>match N a with|some o=>some o|none=>N' a
theorem eY:aU N (join N N'):=λa o e=>by unfold join;rw[e]
theorem eC (e:N a=none):join N N' a=N' a:=by unfold join;rw[e]
def own (σ:St)(ρ:Env)(a:Addr):Prop:=∃(i:Nat)(d:D),ρ[i]? = some (some (d,true))/\σ[i]? = some (some (V.ref a))
inductive Bx (K:PySem.W.Frag)(C:Hp):HO->D->Prop where
 |lst {vs:List V}{ds:List D}(h:IsL K C vs ds):Bx K C (.lst vs) (.lst ds)
 |dk {ks:List c8}{vs:List V}{ds:List D}(hl:ks.length=vs.length) (h:IsL K C vs ds) {ob:Obj}:Bx K C (.dK (ks.zip vs) ob) (.dk ks ds)
 |dt {ks:List (List c8)}{vs:List V}{ds:List D}(hl:ks.length=vs.length) (h:IsL K C vs ds):Bx K C (.dT (ks.zip vs)) (.dt ks ds)
theorem Bx.mono (h:Bx K C o d)(e:aU C C'):Bx K C' o d:=by
 cases h with
 |lst h=>exact .lst (h.mono e)
 |dk hl h=>exact .dk hl (h.mono e)
 |dt hl h=>exact .dt hl (h.mono e)
theorem Bx.is (h:Bx K C o d)(e:C a=some o):Is K C (.ref a) d:=by
 cases h with
 |lst h=>exact .lst (iF.of e) h
 |dk hl h=>exact .dk e hl h
 |dt hl h=>exact .dt e hl h
structure eB (K:PySem.W.Frag)(B0 H0 N H:Hp)(σ:St)(ρ:Env):Prop where
 bh:aU B0 H0
 tb:Tb K B0
 ext:Ext B0 N H0 H
 len:ρ.length=σ.length
 sh:∀(i:Nat)(d:D),ρ[i]? = some (some (d,false))->∃v,σ[i]? = some (some v)/\Is K (dL N (own σ ρ)) v d
 ow:∀(i:Nat)(d:D),ρ[i]? = some (some (d,true))->∃(a:Addr)(o:HO),σ[i]? = some (some (V.ref a))/\N a=some o/\H0 a=none/\Bx K (dL N (own σ ρ)) o d
 inj:∀(i j:Nat)(a:Addr)(d e:D),ρ[i]? = some (some (d,true))->ρ[j]? = some (some (e,true))->σ[i]? = some (some (V.ref a))->σ[j]? = some (some (V.ref a))->i=j
def zO (K:PySem.W.Frag)(B0 H0 H:Hp)(σ:St)(ρ:Env):Prop:=∃N,eB K B0 H0 N H σ ρ
section
variable {K:PySem.W.Frag}{B0 H0 N H H':Hp}{σ:St}{ρ:Env}
theorem eB.owL (s:eB K B0 H0 N H σ ρ)(i:Nat)(d:D)(q:ρ[i]? = some (some (.lst es,true)))(hd:d=.lst es:=by rfl):∃(a:Addr)(vs:List V)(ds:List D),d=.lst ds/\σ[i]? = some (some (V.ref a))/\N a=some (.lst vs)/\H0 a=none/\IsL K (dL N (own σ ρ)) vs ds:=by
 obtain⟨a,o,h1,h2,h3,h4⟩:=s.ow i _ q;cases h4 with
 |lst h4=>exact⟨a,_,es,hd,h1,h2,h3,h4⟩
def boxed:HO->Prop
 |.lst _|.dK _ _|.dT _=>True
 |_=>False
theorem Bx.boxed (h:Bx K C o d):boxed o:=by cases h<;>exact trivial
theorem eB.owned (s:eB K B0 H0 N H σ ρ)(h:own σ ρ a):∃o,(N a=some o/\boxed o)/\H0 a=none:=by
 obtain⟨i,d,h1,h2⟩:=h;obtain⟨a',o,h3,h4,h5,h6⟩:=s.ow i d h1;rw[h2]at h3;cases h3;exact⟨o,⟨h4,h6.boxed⟩,h5⟩
theorem eB.rep (s:eB K B0 H0 N H σ ρ):fE K N σ ρ:=⟨s.tb.mono s.ext.bn,λi d b q=>by
 cases b with
 |false=>obtain⟨v,h1,h2⟩:=s.sh i d q;exact⟨v,h1,h2.mono bQ⟩
 |true=>
  obtain⟨a,o,h2,h3,_,h4⟩:=s.ow i d q;exact⟨_,h2,(h4.mono bQ).is h3⟩⟩
noncomputable def ml (ρ:Env):Env:=ρ.map λx=>match x with|some (d,false)=>some (d,false)|_=>none
theorem Ex {i:Nat}{d:D}{b:Bool}(h:(ml ρ)[i]? = some (some (d,b))):b=false/\ρ[i]? = some (some (d,false)):=by
 unfold ml at h;rw[vA]at h;cases e:ρ[i]? with
 |none=>rw[e]at h;cases h
 |some x=>
  rw[e]at h;match x,h with
  |some (d',false),h=>cases h;exact⟨rfl,rfl⟩
  |some (d',true),h=>cases h
  |none,h=>cases h
theorem eB.tbC (s:eB K B0 H0 N H σ ρ):Tb K (dL N (own σ ρ)):=λx hx c P q=>by
 have z:=s.tb.mono s.ext.bn x hx c P q;rw[cO]
 ·exact z
 ·intro y;obtain⟨o,⟨y,yb⟩,_⟩:=s.owned y;rw[z]at y;cases y;exact yb
theorem eB.repH (s:eB K B0 H0 N H σ ρ):fE K (dL N (own σ ρ)) σ (ml ρ):=⟨s.tbC,λi d b q=>by
 obtain⟨rfl,q2⟩:=Ex q;exact s.sh i d q2⟩
theorem eB.grow (s:eB K B0 H0 N H σ ρ)(x:Ext N N' H H'):eB K B0 H0 N' H' σ ρ:=by
 have c:aU (dL N (own σ ρ)) (dL N' (own σ ρ)):=eN λa o e q=>⟨x.bn a o e,q⟩;refine⟨s.bh,s.tb,s.ext.trans x,s.len,λi d q=>?_,λi d q=>?_,s.inj⟩
 ·obtain⟨v,h1,h2⟩:=s.sh i d q;exact⟨v,h1,h2.mono c⟩
 ·obtain⟨a,o,h2,h3,h4,h5⟩:=s.ow i d q;exact⟨a,o,h2,x.bn _ _ h3,h4,h5.mono c⟩
theorem eB.growH (s:eB K B0 H0 N H σ ρ)(x:Ext (dL N (own σ ρ)) N' H H'):eB K B0 H0 (join N N') H' σ ρ/\aU N' (dL (join N N') (own σ ρ)):=by
 have x':Ext N (join N N') H H':=by
  refine⟨x.hh,eY,λa o e=>?_,λa o e=>?_⟩
  ·cases q:N a with
   |some u=>
    have:join N N' a=some u:=eY _ _ q;rw[this]at e;cases e;exact x.hh _ _ (s.ext.nh _ _ q)
   |none=>rw[eC q]at e;exact x.nh _ _ e
  ·cases q:N a with
   |some u=>
    have:join N N' a=some u:=eY _ _ q;rw[this]at e;cases e;exact .inl rfl
   |none=>
    rw[eC q]at e;rcases x.new a o e with z|z
    ·have:=bQ _ _ z;rw[q]at this;cases this
    ·exact .inr z
 refine⟨s.grow x',λa o e=>?_⟩;rcases x.new a o e with z|z
 ·obtain⟨z1,z2⟩:=pC z;rw[cO z1];exact eY _ _ z2
 ·have hN:N a=none:=s.ext.nh.free z;have:¬own σ ρ a:=λq=>by obtain⟨vs,⟨q,_⟩,_⟩:=s.owned q;rw[hN]at q;cases q
  rw[cO this,eC hN];exact e
noncomputable def unown (ρ:Env):Env:=ρ.map λx=>x.map λy=>(y.1,false)
theorem kM {i:Nat}{d:D}{b:Bool}(h:(unown ρ)[i]? = some (some (d,b))):b=false/\∃c,ρ[i]? = some (some (d,c)):=by
 unfold unown at h;rw[vA]at h;cases e:ρ[i]? with
 |none=>rw[e]at h;cases h
 |some x=>
  rw[e]at h;match x,h with
  |some (d',c),h=>cases h;exact⟨rfl,c,rfl⟩
  |none,h=>cases h
theorem nv {a:Addr}:¬own σ (unown ρ) a:=λ⟨i,d,h,_⟩=>by
 obtain⟨z,_⟩:=kM h;cases z
theorem eB.unown (s:eB K B0 H0 N H σ ρ):eB K B0 H0 N H σ (unown ρ):=by
 refine⟨s.bh,s.tb,s.ext,by unfold DL.unown;rw[vI];exact s.len,λi d q=>?_,λi d q=>?_,λi j a d e q=>?_⟩
 ·obtain⟨_,c,q⟩:=kM q;obtain⟨v,h1,h2⟩:=s.rep.at' i d c q;exact⟨v,h1,h2.mono λa o e=>by rw[cO nv];exact e⟩
 ·obtain⟨z,_⟩:=kM q;cases z
 ·obtain⟨z,_⟩:=kM q;cases z
theorem ce {α:Type}{l:List α}{i j:Nat}{x y:α}(h:(l.set i x)[j]? = some y):(i=j/\x=y)∨(i≠j/\l[j]? = some y):=by
 by_cases e:i=j
 ·subst e;rw[List.getElem?_set]at h;split at h
  ·split at h
   ·exact .inl ⟨rfl,vK h⟩
   ·cases h
  ·contradiction
 ·rw[vB e]at h;exact .inr ⟨e,h⟩
theorem sP {α β:Type}{l:List α}{m:List β}{i:Nat}{x y:α}(h:(l.set i x)[i]? = some y)(e:l.length=m.length):i<m.length:=by
 obtain⟨h,_⟩:=vV h;rw[List.length_set]at h;omega
theorem uE {i:Nat}{v:V}{x:Option (D×Bool)}{a:Addr}(h:own (σ.set i (some v)) (ρ.set i x) a):(v=.ref a/\∃d,x=some (d,true))∨∃j,j≠i/\∃d,ρ[j]? = some (some (d,true))/\σ[j]? = some (some (V.ref a)):=by
 obtain⟨j,d,h1,h2⟩:=h;rcases ce h1 with⟨e,q⟩|⟨e,q⟩
 ·rcases ce h2 with⟨e2,q2⟩|⟨e2,q2⟩
  ·cases q2;exact .inl ⟨rfl,d,q⟩
  ·exact absurd e e2
 ·rcases ce h2 with⟨e2,q2⟩|⟨e2,q2⟩
  ·exact absurd e2 e
  ·exact .inr ⟨j,λz=>e z.symm,d,q,q2⟩
theorem eB.bind (s:eB K B0 H0 N H σ ρ){i:Nat}{v:V}{d:D}(h:Is K (dL N (own σ ρ)) v d):eB K B0 H0 N H (σ.set i (some v)) (ρ.set i (some (d,false))):=by
 have o:∀a,own (σ.set i (some v)) (ρ.set i (some (d,false))) a->own σ ρ a:=λa q=>by
  rcases uE q with⟨_,d',p⟩|⟨j,_,d',q1,q2⟩
  ·cases p
  ·exact⟨j,d',q1,q2⟩
 have c:aU (dL N (own σ ρ)) (dL N (own (σ.set i (some v)) (ρ.set i (some (d,false))))):=eN λa u e q=>⟨e,λz=>q (o a z)⟩;refine⟨s.bh,s.tb,s.ext,by simp[s.len],λj e q=>?_,λj e q=>?_,λj k a e f q q' h1 h2=>?_⟩
 ·rcases ce q with⟨rfl,p⟩|⟨ne,p⟩
  ·cases p
   have hi:=sP q s.len;exact⟨v,by simp[hi],h.mono c⟩
  ·obtain⟨w,h1,h2⟩:=s.sh j e p;exact⟨w,by rw[vB ne];exact h1,h2.mono c⟩
 ·rcases ce q with⟨rfl,p⟩|⟨ne,p⟩
  ·cases p
  ·obtain⟨a,o,h1,h2,h3,h4⟩:=s.ow j e p;exact⟨a,o,by rw[vB ne];exact h1,h2,h3,h4.mono c⟩
 ·rcases ce q with⟨rfl,p⟩|⟨ne,p⟩
  ·cases p
  ·rcases ce q' with⟨rfl,p'⟩|⟨Qn,p'⟩
   ·cases p'
   ·rw[vB ne]at h1;rw[vB Qn]at h2;exact s.inj j k a e f p p' h1 h2
theorem eB.bindOwn (s:eB K B0 H0 N H σ ρ){i:Nat}{a:Addr}{ob:HO}{dd:D}(hN:N a=some ob)(h0:H0 a=none)(Ol:∀(j:Nat)(d:D),ρ[j]? = some (some (d,true))->σ[j]? ≠ some (some (V.ref a)))
  (Ts:∀(j:Nat)(d:D),j≠i->ρ[j]? = some (some (d,false))->∃v,σ[j]? = some (some v)/\Is K (dL N (λb=>own σ ρ b∨b=a)) v d) (Xl:∀(j:Nat)(d:D),j≠i->ρ[j]? = some (some (d,true))->∃(a':Addr)(o:HO),σ[j]? = some (some (V.ref a'))/\N a'=some o/\Bx K (dL N (λb=>own σ ρ b∨b=a)) o d)
  (Nk:Bx K (dL N (λb=>own σ ρ b∨b=a)) ob dd):eB K B0 H0 N H (σ.set i (some (.ref a))) (ρ.set i (some (dd,true))):=by
 have o:∀b,own (σ.set i (some (V.ref a))) (ρ.set i (some (dd,true))) b->own σ ρ b∨b=a:=λb q=>by
  rcases uE q with⟨p,_⟩|⟨j,_,d',q1,q2⟩
  ·cases p;exact .inr rfl
  ·exact .inl ⟨j,d',q1,q2⟩
 have c:aU (dL N (λb=>own σ ρ b∨b=a)) (dL N (own (σ.set i (some (V.ref a))) (ρ.set i (some (dd,true))))):=eN λb u e q=>⟨e,λz=>q (o b z)⟩;refine⟨s.bh,s.tb,s.ext,by simp[s.len],λj e q=>?_,λj e q=>?_,λj k b e f q q' h1 h2=>?_⟩
 ·rcases ce q with⟨rfl,p⟩|⟨ne,p⟩
  ·cases p
  ·obtain⟨w,h1,h2⟩:=Ts j e (Ne.symm ne) p;exact⟨w,by rw[vB ne];exact h1,h2.mono c⟩
 ·rcases ce q with⟨rfl,p⟩|⟨ne,p⟩
  ·cases p
   have hi:=sP q s.len;exact⟨a,ob,by simp[hi],hN,h0,Nk.mono c⟩
  ·obtain⟨a',o',h1,h2,h4⟩:=Xl j e (Ne.symm ne) p;have h3:H0 a'=none:=by
    obtain⟨a2,_,k1,_,k3,_⟩:=s.ow j e p;rw[h1]at k1;cases k1;exact k3
   exact⟨a',o',by rw[vB ne];exact h1,h2,h3,h4.mono c⟩
 ·rcases ce q with⟨rfl,p⟩|⟨ne,p⟩
  ·rcases ce q' with⟨rfl,p'⟩|⟨Qn,p'⟩
   ·rfl
   ·rw[vB Qn]at h2;have RC:V.ref a=V.ref b:=by
     rcases ce h1 with⟨_,z⟩|⟨z,_⟩
     ·exact vK z
     ·exact absurd rfl z
    cases RC
    exact absurd h2 (Ol k f p')
  ·rcases ce q' with⟨rfl,p'⟩|⟨Qn,p'⟩
   ·rw[vB ne]at h1;have DE:V.ref a=V.ref b:=by
     rcases ce h2 with⟨_,z⟩|⟨z,_⟩
     ·exact vK z
     ·exact absurd rfl z
    cases DE
    exact absurd h1 (Ol j e p)
   ·rw[vB ne]at h1;rw[vB Qn]at h2;exact s.inj j k b e f p p' h1 h2
end
inductive Res where
 |nx (ρ:Env)|rt (d:D) (b:Bool)|bk (ρ:Env)|ct (ρ:Env)
abbrev FS:=Env->Option Res
def Pp (K:PySem.W.Frag)(B0 H0:Hp)(E:Ends):Res->Prop
 |.nx ρ=>∀σ H,zO K B0 H0 H σ ρ->E.nx σ H
 |.rt d b=>∀v H N,Ext B0 N H0 H->Is K N v d->(b=true->NR K H0 N v d)->E.rt v H
 |.bk ρ=>∀σ H,zO K B0 H0 H σ ρ->E.bk σ H
 |.ct ρ=>∀σ H,zO K B0 H0 H σ ρ->E.ct σ H
def nw (K:PySem.W.Frag)(g:FS):TS:=λE σ H=>∃(B0 H0:Hp)(ρ:Env)(r:Res),zO K B0 H0 H σ ρ/\g ρ=some r/\Pp K B0 H0 E r
section
variable {K:PySem.W.Frag}{B0 H0 N H H':Hp}{σ:St}{ρ:Env}{E:Ends}
theorem eB.writeB (s:eB K B0 H0 N H σ ρ)(hi:ρ[i]? = some (some (d,true)))(hσ:σ[i]? = some (some (V.ref a)))(h:Bx K (dL N (own σ ρ)) ob dd):
  eB K B0 H0 (upd N a ob) (upd H a ob) σ (ρ.set i (some (dd,true))):=by
 have oa:own σ ρ a:=⟨i,d,hi,hσ⟩;obtain⟨ws,hw,h0⟩:=s.owned oa;have b0:B0 a=none:=s.bh.free h0;have o:∀b,own σ (ρ.set i (some (dd,true))) b↔own σ ρ b:=λb=>by
  constructor
  ·rintro⟨j,e,q1,q2⟩;rcases ce q1 with⟨rfl,p⟩|⟨_,p⟩
   ·exact⟨i,d,hi,q2⟩
   ·exact⟨j,e,p,q2⟩
  ·rintro⟨j,e,q1,q2⟩;by_cases z:i=j
   ·subst z;exact⟨i,dd,by rw[List.getElem?_set_self (vV hi).1],q2⟩
   ·exact⟨j,e,by rw[vB z];exact q1,q2⟩
 have c:aU (dL N (own σ ρ)) (dL (upd N a ob) (own σ (ρ.set i (some (dd,true))))):=eN λb u e q=>by
  have ne:b≠a:=λz=>q (z ▸ oa);exact⟨by rw[aI ne];exact e,λz=>q ((o b).mp z)⟩
 refine⟨s.bh,s.tb,⟨λb u e=>?_,λb u e=>?_,λb u e=>?_,λb u e=>?_⟩,by rw[List.length_set];exact s.len,λj e q=>?_,λj e q=>?_,λj k b e f q q' h1 h2=>?_⟩
 ·rw[aI (λz=>by subst z;rw[h0]at e;cases e)];exact s.ext.hh _ _ e
 ·rw[aI (λz=>by subst z;rw[b0]at e;cases e)];exact s.ext.bn _ _ e
 ·by_cases z:b=a
  ·subst z;rw[aE]at e ⊢;exact e
  ·rw[aI z]at e ⊢;exact s.ext.nh _ _ e
 ·by_cases z:b=a
  ·subst z;exact .inr h0
  ·rw[aI z]at e;exact s.ext.new _ _ e
 ·rcases ce q with⟨rfl,p⟩|⟨ne,p⟩
  ·cases p
  ·obtain⟨v,h1,h2⟩:=s.sh j e p;exact⟨v,h1,h2.mono c⟩
 ·rcases ce q with⟨rfl,p⟩|⟨ne,p⟩
  ·cases p
   exact⟨a,ob,hσ,aE,h0,h.mono c⟩
  ·obtain⟨a',o',h1,h2,h3,h4⟩:=s.ow j e p;have na:a'≠a:=λz=>by subst z;exact ne (s.inj i j _ d e hi p hσ h1)
   exact⟨a',o',h1,by rw[aI na];exact h2,h3,h4.mono c⟩
 ·have get:∀ {j:Nat}{e:D},(ρ.set i (some (dd,true)))[j]? = some (some (e,true))->∃e',ρ[j]? = some (some (e',true)):=λ{j e} q=>by
   rcases ce q with⟨rfl,p⟩|⟨ne,p⟩
   ·exact⟨d,hi⟩
   ·exact⟨e,p⟩
  obtain⟨e',q1⟩:=get q;obtain⟨f',q2⟩:=get q';exact s.inj j k b e' f' q1 q2 h1 h2
theorem eB.write (s:eB K B0 H0 N H σ ρ)(hi:ρ[i]? = some (some (d,true)))(hσ:σ[i]? = some (some (V.ref a)))(h:IsL K (dL N (own σ ρ)) vs ds):
  eB K B0 H0 (upd N a (.lst vs)) (upd H a (.lst vs)) σ (ρ.set i (some (.lst ds,true))):=s.writeB hi hσ (.lst h)
theorem eB.tups (s:eB K B0 H0 N H σ ρ):∀a vs,jf K N a vs->jf K (dL N (own σ ρ)) a vs:=λa vs h=>by
 have key:∀u,N a=some u->¬boxed u->dL N (own σ ρ) a=some u:=λu e hu=>by
  rw[cO λz=>?_];exact e;obtain⟨ws,⟨q,qb⟩,_⟩:=s.owned z;rw[e]at q;cases q;exact hu qb
 rcases h with (h|⟨o,h⟩)|h
 ·exact .inl (.inl (key _ h (λq=>q)))
 ·exact .inl (.inr ⟨o,key _ h (λq=>q)⟩)
 ·exact .inr h
theorem eB.flat (s:eB K B0 H0 N H σ ρ)(h:Is K N v d)(n:bv d=true):Is K (dL N (own σ ρ)) v d:=h.keepT s.tups n
theorem eB.flats (s:eB K B0 H0 N H σ ρ)(h:IsL K N v d)(n:bz d=true):IsL K (dL N (own σ ρ)) v d:=h.keepT s.tups n
theorem eB.rebase (s:eB K B0 H0 N H σ ρ):eB K (dL N (own σ ρ)) (dL H (own σ ρ)) N H σ ρ :=
 ⟨eN λa o e q=>⟨s.ext.nh _ _ e,q⟩,s.tbC,⟨bQ,bQ,s.ext.nh,λa o e=>by
  by_cases q:own σ ρ a
  ·exact .inr (zN q)
  ·exact .inl (by rw[cO q];exact e)⟩,s.len,s.sh,λi d q=>by
   obtain⟨a,o,h1,h2,_,h4⟩:=s.ow i d q;exact⟨a,o,h1,h2,zN ⟨i,d,q,h1⟩,h4⟩,s.inj⟩
theorem eB.unbase (s:eB K B0 H0 N H σ ρ)(t:eB K (dL N (own σ ρ)) (dL H (own σ ρ)) N' H' σ' ρ'):eB K B0 H0 N' H' σ' ρ':=by
 have h0:aU H0 (dL H (own σ ρ)):=λa o e=>by
  rw[cO λz=>?_];exact s.ext.hh _ _ e;obtain⟨_,_,q⟩:=s.owned z;rw[q]at e;cases e
 have b0:aU B0 (dL N (own σ ρ)):=λa o e=>by
  rw[cO λz=>?_];exact s.ext.bn _ _ e;obtain⟨_,_,q⟩:=s.owned z;rw[s.bh _ _ e]at q;cases q
 refine⟨s.bh,s.tb,⟨h0.trans t.ext.hh,b0.trans t.ext.bn,t.ext.nh,λa o e=>?_⟩,t.len,t.sh,λi d q=>?_,t.inj⟩
 ·rcases t.ext.new a o e with z|z
  ·exact s.ext.new a o (bQ _ _ z)
  ·exact .inr (h0.free z)
 ·obtain⟨a,o,h1,h2,h3,h4⟩:=t.ow i d q;exact⟨a,o,h1,h2,h0.free h3,h4⟩
theorem eB.based (t:eB K B0 H0 N H σ ρ):aU B0 (dL N (own σ ρ)):=λa o e=>by
 rw[cO λz=>?_];exact t.ext.bn _ _ e;obtain⟨_,_,q⟩:=t.owned z;rw[t.bh _ _ e]at q;cases q
@[simp] noncomputable def aA (g h:FS):FS:=λρ=>match g ρ with|some (.nx ρ')=>h ρ'|r=>r
@[simp] noncomputable def bp:FS:=λρ=>some (.nx ρ)
@[simp] noncomputable def eG (c:FT)(g h:FS):FS:=λρ=>match c ρ with|some true=>g ρ|some false=>h ρ|none=>none
@[simp] noncomputable def aZ (f:FE):FS:=λρ=>(f ρ).map λx=>.rt x.1 x.2
@[simp] noncomputable def UG:FS:=λ_=>some (.rt .non false)
@[simp] noncomputable def UH (f:FE):FS:=λρ=>(f ρ).map λ_=>.nx ρ
@[simp] noncomputable def Kg:D->Bool
 |.dk _ _=>true
 |.dt _ _=>true
 |_=>false
@[simp] def jO (i:Nat):FS:=λρ=>match ρ[i]? with|some (some (d,b))=>some (.rt d (b && !Kg d))|_=>none
@[simp] def Kh:D->Bool
 |.lst ds=>bz ds
 |_=>false
@[simp] def setE (ρ:Env)(i:Nat)(d:D)(b:Bool):Env :=
 if bv d=true then ρ.set i (some (d,false))else if b=true/\Kh d=true then ρ.set i (some (d,true))else (unown ρ).set i (some (d,false))
@[simp] def aQ (i:Nat)(f:FE):FS:=λρ=>(f ρ).map λx=>.nx (setE ρ i x.1 x.2)
@[simp] def xi (i:Nat)(f:FE):FS:=λρ=>(f (ml ρ)).map λx=>.nx (ρ.set i (some (x.1,false)))
@[simp] def jh (i:Nat)(f:FE):FS:=λρ=>match ρ[i]? with
 |some (some (.lst ds,true))=>(f ρ).bind λx=>if bv x.1=true/\ds.length<sizeLine then some (.nx (ρ.set i (some (.lst (ds++[x.1]),true))))else none
 |_=>none
theorem HR (q:nw K (aA g h) E σ H):OH (nw K g) (nw K h) E σ H:=by
 obtain⟨B0,H0,ρ,r,s,e,p⟩:=q;unfold aA at e;cases eg:g ρ with
 |none=>rw[eg]at e;cases e
 |some r1=>
  rw[eg]at e;cases r1 with
  |nx ρ'=>exact⟨B0,H0,ρ,.nx ρ',s,eg,λσ' H' s'=>⟨B0,H0,ρ',r,s',e,p⟩⟩
  |rt d b=>cases e;exact⟨B0,H0,ρ,_,s,eg,p⟩
  |bk ρ'=>cases e;exact⟨B0,H0,ρ,_,s,eg,p⟩
  |ct ρ'=>cases e;exact⟨B0,H0,ρ,_,s,eg,p⟩
theorem Ey (q:nw K bp E σ H):JU E σ H:=by
 obtain⟨B0,H0,ρ,r,s,e,p⟩:=q;cases e
 exact p σ H s
theorem zO.grown (s:eB K B0 H0 N H σ ρ)(h:aU H H'):zO K B0 H0 H' σ ρ:=⟨N,s.grow (.grow s.ext.nh h)⟩
theorem Mc (q:nw K (eG c g h) E σ H):OK (CG K c) (nw K g) (nw K h) E σ H:=by
 obtain⟨B0,H0,ρ,r,⟨N,s⟩,e,p⟩:=q;unfold eG at e;cases ec:c ρ with
 |none=>rw[ec]at e;cases e
 |some b=>
  rw[ec]at e;refine⟨N,ρ,b,s.ext.nh,s.rep,ec,λH1 h1=>?_⟩;cases b with
  |true=>rw[if_pos rfl];exact⟨B0,H0,ρ,r,.grown s h1,e,p⟩
  |false=>rw[if_neg (by decide)];exact⟨B0,H0,ρ,r,.grown s h1,e,p⟩
theorem HS (q:nw K (aZ f) E σ H):L8 (tD K f) E σ H:=by
 obtain⟨B0,H0,ρ,r,⟨N,s⟩,e,p⟩:=q;obtain⟨x,ex,e⟩:=oY e;subst e;exact⟨N,ρ,x.1,x.2,s.ext.nh,s.rep,ex,λv H1 N1 x1 i1 f1=>p v H1 N1 (s.ext.trans x1) i1 λb=>(f1 b).back s.ext.hh⟩
theorem Ez (q:nw K (jO i) E σ H):L8 (DZ i) E σ H:=by
 obtain⟨B0,H0,ρ,r,⟨N,s⟩,e,p⟩:=q;unfold jO at e;split at e
 ·rename_i d b ei;cases e
  cases b with
  |false=>
   obtain⟨v,h1,h2⟩:=s.sh i d ei;exact⟨v,h1,p v H N s.ext (h2.mono bQ) (by simp)⟩
  |true=>
   obtain⟨a,o,h1,h2,h3,h4⟩:=s.ow i d ei;cases h4 with
   |lst h4=>exact⟨_,h1,p _ H N s.ext (.lst (iF.of h2) (h4.mono bQ)) λ_=>⟨a,_,_,rfl,rfl,h3,h2,h4.mono bQ⟩⟩
   |dk hl h4=>exact⟨_,h1,p _ H N s.ext (.dk h2 hl (h4.mono bQ)) (by simp)⟩
   |dt hl h4=>exact⟨_,h1,p _ H N s.ext (.dt h2 hl (h4.mono bQ)) (by simp)⟩
 ·cases e
theorem eB.setE (s:eB K B0 H0 N H σ ρ)(x:Ext N N1 H H1)(h:Is K N1 v d)(f:b=true->NR K H N1 v d):eB K B0 H0 N1 H1 (σ.set i (some v)) (setE ρ i d b):=by
 have s1:=s.grow x;unfold DL.setE;by_cases hn:bv d=true
 ·rw[if_pos hn];exact s1.bind (s1.flat h hn)
 ·rw[if_neg hn];by_cases hb:b=true/\Kh d=true
  ·rw[if_pos hb];obtain⟨a,vs,ds,rfl,rfl,ha,hN,hs⟩:=f hb.1;have Vn:N a=none:=s.ext.nh.free ha;have Qp:¬own σ ρ a:=λz=>by obtain⟨ws,⟨q,_⟩,_⟩:=s.owned z;rw[Vn]at q;cases q
   have c:aU (dL N (own σ ρ)) (dL N1 (λb=>own σ ρ b∨b=a)):=eN λb u e q=>⟨x.bn _ _ e,λz=>z.elim q λz=>by subst z;rw[Vn]at e;cases e⟩;refine s1.bindOwn hN (s.ext.hh.free ha) (λj e q z=>Qp ⟨j,e,q,z⟩) (λj e _ q=>?_) (λj e _ q=>?_) (.lst (hs.keepT (λt ts st=>?_) hb.2))
   ·obtain⟨w,h1,h2⟩:=s.sh j e q;exact⟨w,h1,h2.mono c⟩
   ·obtain⟨a',o',h1,h2,_,h4⟩:=s.ow j e q;exact⟨a',o',h1,x.bn _ _ h2,h4.mono c⟩
   ·have key:∀u,N1 t=some u->¬boxed u->dL N1 (λb=>own σ ρ b∨b=a) t=some u:=λu e hu=>by
     rw[cO λz=>?_];exact e;rcases z with z|z
     ·obtain⟨ws,⟨q,qb⟩,_⟩:=s1.owned z;rw[e]at q;cases q;exact hu qb
     ·subst z;rw[e]at hN;cases hN;exact hu trivial
    rcases st with (st|⟨o,st⟩)|st
    ·exact .inl (.inl (key _ st (λq=>q)))
    ·exact .inl (.inr ⟨o,key _ st (λq=>q)⟩)
    ·exact .inr st
  ·rw[if_neg hb];exact s1.unown.bind (h.mono λa o e=>by rw[cO nv];exact e)
theorem AT (q:nw K (aQ i f) E σ H):wU (tD K f) (jM i) E σ H:=by
 obtain⟨B0,H0,ρ,r,⟨N,s⟩,e,p⟩:=q;obtain⟨x,ex,e⟩:=oY e;subst e;exact⟨N,ρ,x.1,x.2,s.ext.nh,s.rep,ex,λv H1 N1 x1 i1 f1=>p _ H1 ⟨N1,s.setE x1 i1 f1⟩⟩
theorem E1 (q:nw K (xi i f) E σ H):wU (tD K f) (jM i) E σ H:=by
 obtain⟨B0,H0,ρ,r,⟨N,s⟩,e,p⟩:=q;obtain⟨x,ex,e⟩:=oY e;subst e;refine⟨dL N (own σ ρ),ml ρ,x.1,x.2,bQ.trans s.ext.nh,s.repH,ex,λv H1 N1 x1 i1 f1=>?_⟩;obtain⟨s1,c⟩:=s.growH x1;exact p _ H1 ⟨_,s1.bind (i1.mono c)⟩
theorem HU (q:nw K (jh i f) E σ H):∃(a:Addr)(us:List V),σ[i]? = some (some (V.ref a))/\H a=some (.lst us)/\Ka (tD K f) Pa σ H λxs H2=>AO (.ref a) xs H2 λ_ H3=>E.nx σ H3:=by
 obtain⟨B0,H0,ρ,r,⟨N,s⟩,e,p⟩:=q;unfold jh at e;split at e
 ·rename_i ds ei;obtain⟨x,ex,e⟩:=oX e;split at e
  ·rename_i hx;cases e
   obtain⟨a,vs,JB,z,h1,h2,h3,h4⟩:=s.owL i _ ei;cases z
   refine⟨a,vs,h1,s.ext.nh _ _ h2,N,ρ,x.1,x.2,s.ext.nh,s.rep,ex,λv H1 N1 x1 i1 f1=>⟨a,vs,v,rfl,rfl,x1.hh _ _ (s.ext.nh _ _ h2),by rw[h4.length];exact hx.2,?_⟩⟩;have s1:=s.grow x1;obtain⟨a',RD,JB,z,k1,k2,_,k4⟩:=s1.owL i _ ei;cases z
   rw[h1]at k1;cases k1;rw[x1.bn _ _ h2]at k2;cases k2;exact p σ _ ⟨_,s1.write ei h1 (k4.append (.cons (s1.flat i1 hx.1) .nil))⟩
  ·cases e
 ·cases e
end
noncomputable def E2 (c:FT)(g:FS):Nat->Env->Option Res
 |0,_=>none
 |n+1,ρ=>match c ρ with
  |some true=>match g ρ with
   |some (.nx ρ')=>E2 c g n ρ'
   |some (.ct ρ')=>E2 c g n ρ'
   |some (.bk ρ')=>some (.nx ρ')
   |r=>r
  |some false=>some (.nx ρ)
  |none=>none
def pD (K:PySem.W.Frag)(J:It)(B:Hp)(ds:List D):Prop:=∀(i:Nat)(H:Hp),aU B H ->
 (∀d,ds[i]? = some d->J.go i H/\∀x H',J.yld i H x H'->∃N,Ext B N H H'/\Is K N x d)/\(ds.length<=i->J.stop i H)
def UI (K:PySem.W.Frag)(f:FA):TI:=λσ H R=>∃(B:Hp)(ρ:Env)(ds:List D),aU B H/\fE K B σ ρ/\f ρ=some ds/\∀(J:It)(H' N:Hp),Ext B N H H'->pD K J N ds->R J H'
abbrev FG:=D->Env->Option Env
def HV (K:PySem.W.Frag)(tg:FG)(g:TG):Prop:=∀(B0 H0 N H:Hp)(σ:St)(ρ ρ':Env)(v:V)(d:D)(Q:St->Hp->Prop),eB K B0 H0 N H σ ρ->Is K (dL N (own σ ρ)) v d->tg d ρ=some ρ' ->
 (∀σ' H',zO K B0 H0 H' σ' ρ'->Q σ' H')->g v σ H Q
@[simp] noncomputable def dA (i:Nat):FG:=λd ρ=>some (ρ.set i (some (d,false)))
theorem eO:HV K (dA i) (jM i):=by
 intro B0 H0 N H σ ρ ρ' v d Q s h e k;cases e
 exact k _ H ⟨N,s.bind h⟩
noncomputable def iT (tg:FG)(g:FS):List D->Env->Option Res
 |[],ρ=>some (.nx ρ)
 |d::ds,ρ=>(tg d ρ).bind λρ1=>match g ρ1 with
  |some (.nx ρ')=>iT tg g ds ρ'
  |some (.ct ρ')=>iT tg g ds ρ'
  |some (.bk ρ')=>some (.nx ρ')
  |r=>r
@[simp] theorem E3 (tg:FG)(g:FS)(ρ:Env):iT tg g [] ρ=some (.nx ρ):=by rw[iT]
@[simp] theorem CH (tg:FG)(g:FS)(d:D)(ds:List D)(ρ:Env):iT tg g (d::ds) ρ=(tg d ρ).bind λρ1=>match g ρ1 with
  |some (.nx ρ')=>iT tg g ds ρ'
  |some (.ct ρ')=>iT tg g ds ρ'
  |some (.bk ρ')=>some (.nx ρ')
  |r=>r:=by rw[iT]
@[simp] def oS (f:FA)(tg:FG)(g:FS):FS:=λρ=>(f (ml ρ)).bind λds=>iT tg g ds ρ
theorem xj (ht:HV K tg t)(s1:eB K B0 H0 N H1 σ ρ)(c:aU N1 (dL N (own σ ρ)))(J1:pD K J N1 ds)(e:iT tg g ds ρ=some r)(p:Pp K B0 H0 E r):
  ∃W:Nat->Nat->St->Hp->Prop,(∃m,W 0 m σ H1)/\∀i m σ H,W i m σ H->(J.stop i H/\E.nx σ H)∨(J.go i H/\∃N:St->Hp->Prop,(∀σ' H',N σ' H'->∃m',m'<m/\W (i+1) m' σ' H')/\∀x H',J.yld i H x H'->t x σ H' λσ2 H2=>nw K g { E with nx:=N,ct:=N,bk:=E.nx } σ2 H2):=by
 refine⟨λi m σ H=>∃(N:Hp)(ρ:Env),eB K B0 H0 N H σ ρ/\aU N1 (dL N (own σ ρ))/\m=ds.length - i/\i<=ds.length/\iT tg g (ds.drop i) ρ=some r,⟨ds.length,_,ρ,s1,c,rfl,uN _,e⟩,?_⟩;clear e s1 c;rintro i m σ H ⟨N,ρ,s,c,rfl,hi,e⟩;have hs:aU N1 H:=c.trans (bQ.trans s.ext.nh);obtain⟨j1,j2⟩:=J1 i H hs;by_cases fR:i<ds.length
 ·obtain⟨go,yl⟩:=j1 ds[i] (by simp[fR]);rw[List.drop_eq_getElem_cons fR]at e;obtain⟨ρ1,e1,e⟩:=oX e;refine .inr ⟨go,λσ' H'=>∃(N:Hp)(ρ:Env),eB K B0 H0 N H' σ' ρ/\aU N1 (dL N (own σ' ρ))/\iT tg g (ds.drop (i+1)) ρ=some r,λσ' H' ⟨N',ρ',s',c',e'⟩=>⟨_,by omega,N',ρ',s',c',rfl,fR,e'⟩,λx H' y=>?_⟩;obtain⟨N2,x2,i2⟩:=yl x H' y;have x3:Ext (dL N (own σ ρ)) (join (dL N (own σ ρ)) N2) H H':=by
   refine⟨x2.hh,eY,λa o e=>?_,λa o e=>?_⟩
   ·cases q:dL N (own σ ρ) a with
    |some u=>rw[eY _ _ q]at e;cases e;exact x2.hh _ _ (s.ext.nh _ _ (bQ _ _ q))
    |none=>rw[eC q]at e;exact x2.nh _ _ e
   ·cases q:dL N (own σ ρ) a with
    |some u=>rw[eY _ _ q]at e;cases e;exact .inl rfl
    |none=>
     rw[eC q]at e;rcases x2.new a o e with z|z
     ·rw[c _ _ z]at q;cases q
     ·exact .inr z
  obtain⟨s2,c2⟩:=s.growH x3;have c3:aU N2 (join (dL N (own σ ρ)) N2):=λa o e=>by
   rcases x2.new a o e with z|z
   ·exact eY _ _ (c _ _ z)
   ·rw[eC ((bQ.trans s.ext.nh).free z)];exact e
  have i3:=i2.mono (c3.trans c2);have c4:aU N1 (dL (join N (join (dL N (own σ ρ)) N2)) (own σ ρ)):=(x2.bn.trans c3).trans c2;refine ht _ _ _ _ _ _ _ _ _ _ s2.rebase i3 e1 λσ2 H2 ⟨N4,s4⟩=>?_;cases eg:g ρ1 with
  |none=>rw[eg]at e;cases e
  |some r1=>
   rw[eg]at e;refine⟨_,_,ρ1,r1,⟨N4,s4⟩,eg,?_⟩;have back:∀ {σ':St}{H':Hp}{ρ':Env}{N':Hp},eB K _ _ N' H' σ' ρ'->eB K B0 H0 N' H' σ' ρ'/\aU N1 (dL N' (own σ' ρ')):=λt=>⟨s2.unbase t,c4.trans t.based⟩;cases r1 with
   |nx ρ'=>exact λσ' H' ⟨N',t⟩=>⟨N',ρ',(back t).1,(back t).2,e⟩
   |ct ρ'=>exact λσ' H' ⟨N',t⟩=>⟨N',ρ',(back t).1,(back t).2,e⟩
   |bk ρ'=>cases e;exact λσ' H' ⟨N',t⟩=>p σ' H' ⟨N',(back t).1⟩
   |rt d b=>
    cases e
    intro v H' N' x' i' f';have y:=s2.rebase.ext;have h0:aU H0 (dL H' (λ_=>False)):=λa o e=>by rw[cO (λz=>z)];exact x'.hh _ _ (by
     rw[cO λz=>?_];exact s2.ext.hh _ _ e;obtain⟨_,_,q⟩:=s2.owned z;rw[q]at e;cases e)
    have Zm:aU H0 (dL H' (λ_=>False)):=h0;have hH:aU H0 (dL H' (λ_=>False)):=h0;have hc:∀a,dL H' (λ_=>False) a=H' a:=λa=>cO (λz=>z);have hb:aU H0 (dL _ (own σ ρ)):=λa o e=>by
     rw[cO λz=>?_];exact s2.ext.hh _ _ e;obtain⟨_,_,q⟩:=s2.owned z;rw[q]at e;cases e
    have bb:aU B0 (dL _ (own σ ρ)):=λa o e=>by
     rw[cO λz=>?_];exact s2.ext.bn _ _ e;obtain⟨_,_,q⟩:=s2.owned z;rw[s2.bh _ _ e]at q;cases q
    refine p v H' N' ⟨hb.trans x'.hh,bb.trans x'.bn,x'.nh,λa o e=>?_⟩ i' λz=>(f' z).back hb;rcases x'.new a o e with z|z
    ·exact s2.ext.new a o (bQ _ _ z)
    ·exact .inr (hb.free z)
 ·have ei:i=ds.length:=by omega
  subst ei;rw[List.drop_eq_nil_of_le (vT _)]at e;cases e
  exact .inl ⟨j2 (vT _),p σ H ⟨N,s⟩⟩
theorem HW (ht:HV K tg t)(q:nw K (oS f tg g) E σ H):LD (UI K f) t (nw K g) E σ H:=by
 obtain⟨B0,H0,ρ,r,⟨N,s⟩,e,p⟩:=q;obtain⟨ds,ef,e⟩:=oX e;refine⟨dL N (own σ ρ),ml ρ,ds,bQ.trans s.ext.nh,s.repH,ef,λJ H1 N1 x1 J1=>?_⟩;obtain⟨s1,c⟩:=s.growH x1;exact xj ht s1 c J1 e p
def Rr (K:PySem.W.Frag)(f:FA):TI:=λσ H R=>∃(B:Hp)(ρ:Env)(ds:List D),aU B H/\fE K B σ ρ/\f ρ=some ds/\∀(J:It)(H' N:Hp),Ext B N H H'->(∀B',pD K J B' ds)->R J H'
@[simp] def lm (f:FA)(tg:FG)(g:FS):FS:=λρ=>(f ρ).bind λds=>iT tg g ds ρ
theorem E4 (ht:HV K tg t)(q:nw K (lm f tg g) E σ H):LD (Rr K f) t (nw K g) E σ H:=by
 obtain⟨B0,H0,ρ,r,⟨N,s⟩,e,p⟩:=q;obtain⟨ds,ef,e⟩:=oX e;refine⟨N,ρ,ds,s.ext.nh,s.rep,ef,λJ H1 N1 x1 J1=>?_⟩;exact xj ht (s.grow x1) (aU.refl _) (J1 _) e p
end DL
namespace DL
open PySem PySem.Spec PyProof.Rows L2
abbrev JE (X:Cx)(e:Expr)(f:FE):Prop:=PE X e (tD X.K f)
abbrev JT (X:Cx)(e:Expr)(f:FT):Prop:=PT X e (CG X.K f)
abbrev JW (X:Cx)(e:Expr)(f:FT):Prop:=PW X e (CG X.K f)
abbrev JA (X:Cx)(es:List Expr)(f:FA):Prop:=PA X es (NS X.K f)
abbrev JS (X:Cx)(st:Stmt)(g:FS):Prop:=PS X st (nw X.K g)
abbrev wI (X:Cx)(st:List Stmt)(g:FS):Prop:=uq X st (nw X.K g)
abbrev JI (X:Cx)(tg df:Expr)(f:FA):Prop:=PI X tg df (UI X.K f)
theorem uF (I:Nat->Shared->Prop)
  (Jz:∀n s,I n s->wpAny (model prog w) A (pyNext it) (λr s₁=>match r with
   |none=>R (.ok .next) s₁
   |some v=>wpAny (model prog w) A (letOwnedTupleGo rP it v) (λ_ s₁=>wpAny (model prog w) A (assign rP env v) (λ_ s₂=>
     wpAny (model prog w) A (forIn wE true λc r=>if r=true then do let ok ←isTrue c env (eval c env);pure (ForInStep.yield ok)else pure (ForInStep.yield r)) (λok s₃=>
      if ok=true then wpAny (model prog w) A (eval zj env) (λx s₄=>
       wpAny (model prog w) A (call (.builtin "list.append") [lV,x]) (λ_ s₅=>∃m,m<n/\I m s₅) (λ_ _=>False) s₄) (λ_ _=>False) s₃
      else ∃m,m<n/\I m s₃) (λ_ _=>False) s₂) (λ_ _=>False) s₁) (λ_ _=>False) s₁) (λ_ _=>False) s)
  (n:Nat) (h:I n s):codeAny (model prog w) A (.compLoop (.ListComp zj [⟨rP,df,wE,0⟩] scope pos) 0 it lV env) R s:=by
 refine codeAny_loop rfl I (λn s hI=>?_) n h;show wpAny _ A ((compTurn (.ListComp zj [⟨rP,df,wE,0⟩] scope pos) 0 it lV env).onRaise (λx=>do noteFrame x env;theTreesLotGoes x)) _ _ s;refine wpAny_noted (wpAny_mono (E:=λ_ _=>False) ?_ (λ_ _ q=>q) λ_ _ z=>z.elim);rw[compTurn_list];refine wX (wpAny_standAt (wX (wpAny_mono (Jz n s hI) (λr s₁ h₁=>?_) λ_ _ h'=>h')));cases r with
 |none=>exact wY h₁
 |some v=>
  refine wX (wpAny_mono h₁ (λ_ s₁ h₁=>?_) λ_ _ h'=>h');refine wX (wpAny_mono h₁ (λ_ s₂ h₂=>wX (wpAny_mono h₂ (λok s₃ h₃=>?_) λ_ _ h'=>h')) λ_ _ h'=>h');cases ok with
  |false=>exact wY ⟨rfl,h₃⟩
  |true=>exact wX (wX (wpAny_mono h₃ (λx s₄ h₄=>wX (wpAny_mono h₄ (λ_ s₅ h₅=>wY (wY ⟨rfl,h₅⟩)) λ_ _ h'=>h')) λ_ _ h'=>h'))
theorem Ext.upd (x:Ext B N H H')(h:H a=none)(hN:N a=none):Ext B N H (upd H' a o) :=
 ⟨λb u e=>by rw[aI (λz=>by subst z;rw[h]at e;cases e)];exact x.hh _ _ e,x.bn,λb u e=>by rw[aI (λz=>by subst z;rw[hN]at e;cases e)];exact x.nh _ _ e,x.new⟩
noncomputable abbrev fH (X:Cx)(N':List Str)(scope:Scope)(cl:List (Str×Addr))(C:Addr)(s₃:Shared)(H₃:Hp)(fp:List Addr):Cx :=
 { X with N:=N',s₀:=s₃,H₀:=H₃,env:=compEnvC scope cl C X.env,outer:=X.stack,stack:=X.stack,ex:=fp,fn:=λ_=>false,pn:=[],xe:=λ_ _=>False }
inductive ni (X:Cx)(N':List Str)(scope:Scope)(cl:List (Str×Addr)):Nat->List Nat->Prop where
 |nil {j:Nat}(h:N'.length=j):ni X N' scope cl j []
 |cons {j i:Nat}{r:List Nat}{x:Str}(h1:N'[j]? = some x) (h2:X.N[i]? = some x) (h3:X.env.kindOf x=some .cell∨X.env.kindOf x=some .free)
   (h4:(relabel scope X.env).names.lookup x=some .cell∨(relabel scope X.env).names.lookup x=some .free) (h5:cl.lookup x=X.env.cells.lookup x) (t:ni X N' scope cl (j+1) r):ni X N' scope cl j (i::r)
theorem ni.len:∀ {j:Nat}{cap:List Nat},ni X N' scope cl j cap->N'.length=j+cap.length
 |_,_,.nil h=>by rw[h];rfl
 |j,i::r,.cons _ _ _ _ _ t=>by rw[t.len,vE];omega
theorem ni.get:∀ {j:Nat}{cap:List Nat}{k i:Nat},ni X N' scope cl j cap->cap[k]? = some i->∃x,N'[j+k]? = some x/\X.N[i]? = some x/\(X.env.kindOf x=some .cell∨X.env.kindOf x=some .free) /\
  ((relabel scope X.env).names.lookup x=some .cell∨(relabel scope X.env).names.lookup x=some .free)/\cl.lookup x=X.env.cells.lookup x
 |_,_,_,_,.nil _,e=>by simp at e
 |j,_,0,_,.cons h1 h2 h3 h4 h5 _,e=>by simp at e;subst e;exact⟨_,h1,h2,h3,h4,h5⟩
 |j,_,k+1,i,.cons _ _ _ _ _ t,e=>by
  obtain⟨x,q,r⟩:=t.get (k:=k) (i:=i) (by simpa using e);exact⟨x,by rw[show j+(k+1)=j+1+k by omega];exact q,r⟩
structure CompSc (X:Cx)(scope:Scope)(cl:List (Str×Addr)):Prop where
 clos:closureFor scope X.env=pure cl
 nocell:∀y∈scope.names,y.2≠.cell
 kind:scope.kind=.function
 names:∀y∈scope.names,y.2=.local->scope.names.lookup y.1=some .local
 sub:∀x c,cl.lookup x=some c->X.env.cells.lookup x=some c
 has:∀x,((relabel scope X.env).names.lookup x=some .cell∨(relabel scope X.env).names.lookup x=some .free)->∃c,cl.lookup x=some c
noncomputable def dM:List (Str×NameKind)->List (Str×Addr)->List (Str×Addr)->List (Str×Addr)
 |[],_,cs=>cs
 | (n,k)::r,cells,cs=>dM r cells (if k == .free then (match cells.lookup n with|some c=>(n,c)::cs|none=>cs)else cs)
theorem sQ:∀(names:List (Str×NameKind))(cs:List (Str×Addr)),(∀y∈names,y.2=.free->(env.cells.lookup y.1).isSome=true) ->
    (do let mut cs:=cs
        for (name,kind)in names do
          if kind == .free then cs:=(name,←cellOf env name)::cs
        return cs:Sem (List (Str×Addr)))=pure (dM names env.cells cs):=by
  intro names;induction names with
  |nil=>intro cs _;rfl
  |cons y r ih=>
    intro cs h;obtain⟨n,k⟩:=y;have Qr:=λcs=>ih cs λy hy=>h y (mZ _ hy);by_cases hk:k=.free
    . subst hk;have hc:=h (n,.free) mX rfl;cases q:env.cells.lookup n with
      |none=>rw[q]at hc;cases hc
      |some c=>
        have e1:dM ((n,.free)::r) env.cells cs=dM r env.cells ((n,c)::cs):=by
          rw[dM,q];rfl
        rw[e1,←Qr ((n,c)::cs)];have e2:cellOf env n=pure c:=by unfold cellOf;rw[q]
        simp only[List.forIn_cons,beq_self_eq_true,if_true,e2];rfl
    . have hb:(k == NameKind.free)=false:=by simpa using hk
      have e1:dM ((n,k)::r) env.cells cs=dM r env.cells cs:=by rw[dM,hb];rfl
      rw[e1,←Qr cs];simp only[List.forIn_cons,hb,uV,if_false];rfl
theorem mm:∀(names:List (Str×NameKind))(cs:List (Str×Addr)),(∀y d,cs.lookup y=some d->cells.lookup y=some d)->(dM names cells cs).lookup x=some c->cells.lookup x=some c
 |[],cs,h,e=>h x c e
 | (n,k)::r,cs,h,e=>by
  rw[dM]at e;refine mm r _ (λy d q=>?_) e;split at q
  ·split at q
   ·rename_i c' ec;rw[List.lookup_cons]at q;split at q
    ·rename_i hy;cases q
     rw[eq_of_beq hy];exact ec
    ·exact h y d q
   ·exact h y d q
  ·exact h y d q
theorem sR:∀(names:List (Str×NameKind))(cs:List (Str×Addr)),(cs.lookup x).isSome=true->((dM names cells cs).lookup x).isSome=true
 |[],cs,h=>h
 | (n,k)::r,cs,h=>by
  rw[dM];refine sR r _ ?_;split
  ·split
   ·rw[List.lookup_cons];split
    ·rfl
    ·exact h
   ·exact h
  ·exact h
theorem mn:∀(names:List (Str×NameKind))(cs:List (Str×Addr)),(x,NameKind.free)∈names->(cells.lookup x).isSome=true->((dM names cells cs).lookup x).isSome=true
 | (n,k)::r,cs,hm,hc=>by
  rw[dM];rcases vP hm with e|e
  ·cases e
   refine sR r _ ?_;cases q:cells.lookup x with
   |none=>rw[q]at hc;cases hc
   |some c=>simp
  ·exact mn r _ e hc
theorem fT {α:Type}{x:Str}{k:α}:∀ {l:List (Str×α)},l.lookup x=some k->(x,k)∈l
 | (n,j)::r,h=>by
  rw[List.lookup_cons]at h;split at h
  ·rename_i e;cases h
   rw[eq_of_beq e];exact mX
  ·exact mZ _ (fT h)
theorem Md {X:Cx}{scope:Scope}(h1:∀y∈scope.names,y.2≠.cell)(h2:scope.kind=.function)(h3:∀y∈scope.names,y.2=.local->scope.names.lookup y.1=some .local)(Om:(scope.names.all λy=>!(y.2 == NameKind.free) || (X.env.cells.lookup y.1).isSome)=true):
  CompSc X scope (dM scope.names X.env.cells []):=by
 have h4:∀y∈scope.names,y.2=.free->(X.env.cells.lookup y.1).isSome=true:=λy hy e=>by
  have:=uR Om y hy;rw[e]at this;simpa using this
 have frees:∀x,((relabel scope X.env).names.lookup x=some .cell∨(relabel scope X.env).names.lookup x=some .free)->(x,NameKind.free)∈scope.names:=λx h=>by
  have:∃k,(x,k)∈(relabel scope X.env).names/\(k=.cell∨k=.free):=by
   rcases h with h|h
   ·exact⟨_,fT h,.inl rfl⟩
   ·exact⟨_,fT h,.inr rfl⟩
  obtain⟨k,hm,hk⟩:=this;obtain⟨⟨n,j⟩,hj,e⟩:=vO hm;dsimp only at e;split at e
  ·rename_i hc;rw[vC,vC]at hc;cases e
   rw[←eq_of_beq hc.1.1];exact hj
  ·cases e
   rcases hk with rfl|rfl
   ·exact absurd rfl (h1 _ hj)
   ·exact hj
 exact⟨sQ scope.names [] h4,h1,h2,h3,λx c e=>mm scope.names [] (λy d q=>by cases q) e,λx h=>by
  have:=mn (x:=x) scope.names [] (frees x h) (h4 _ (frees x h) rfl);exact uU this⟩
theorem ph {scope:Scope}{cells:List (Str×Addr)}{x:Str}(h:(x,NameKind.free)∈scope.names)(hc:(cells.lookup x).isSome=true):(dM scope.names cells []).lookup x=cells.lookup x:=by
 obtain⟨c,e⟩:=uU (mn (x:=x) scope.names [] h hc);rw[e,mm scope.names [] (λy d q=>by cases q) e]
noncomputable def sf (nT:Nat)(cap:List Nat)(σ:St):St:=List.replicate nT none++cap.map λi=>(σ[i]?).join
noncomputable def cA (nT:Nat)(cap:List Nat)(ρ:Env):Env:=List.replicate nT none++cap.map λi=>match ρ[i]? with|some (some (d,_))=>some (d,false)|_=>none
theorem uG {α:Type}{nT:Nat}{cap:List Nat}{f:Nat->Option α}{j:Nat}{v:α}(h:(List.replicate nT none++cap.map f)[j]? = some (some v)):∃k i,j=nT+k/\cap[k]? = some i/\f i=some v:=by
 by_cases hj:j<nT
 ·rw[List.getElem?_append_left (by simpa using hj),List.getElem?_replicate,if_pos hj]at h;cases h
 ·rw[List.getElem?_append_right (by simpa using Nat.not_lt.mp hj),List.length_replicate,vA]at h;obtain⟨i,h1,h2⟩:=oY h;exact⟨j - nT,i,by omega,h1,h2⟩
theorem HX {α:Type}{nT:Nat}{cap:List Nat}{f:Nat->Option α}{k i:Nat}{v:α}(h1:cap[k]? = some i)(h2:f i=some v):(List.replicate nT none++cap.map f)[nT+k]? = some (some v):=by
 rw[List.getElem?_append_right (by simp),List.length_replicate,vA,Nat.add_sub_cancel_left,h1];simp[h2]
theorem fE.caps {K:PySem.W.Frag}{B:Hp}{σ:St}{ρ:Env}{nT:Nat}{cap:List Nat}(h:fE K B σ ρ):fE K B (sf nT cap σ) (cA nT cap ρ):=⟨h.tb,λj d b q=>by
 obtain⟨k,i,rfl,h1,h2⟩:=uG q;split at h2
 ·rename_i d' b' e;cases h2
  obtain⟨v,g1,g2⟩:=h.at' i _ _ e;exact⟨v,HX h1 (by rw[g1];rfl),g2⟩
 ·cases h2⟩
noncomputable def hV (tg:FG)(c:FT)(fe:FE)(ρ:Env):List D->Option (List D)
 |[]=>some []
 |d::r=>(tg d ρ).bind λρ1=>(c ρ1).bind λb=>if b=true then (fe ρ1).bind λx=>(hV tg c fe ρ r).map (x.1 :: ·)else hV tg c fe ρ r
@[simp] theorem NT (tg:FG)(c:FT)(fe:FE)(ρ:Env):hV tg c fe ρ []=some []:=by rw[hV]
@[simp] theorem zP (tg:FG)(c:FT)(fe:FE)(ρ:Env)(d:D)(r:List D):hV tg c fe ρ (d::r)=(tg d ρ).bind λρ1=>(c ρ1).bind λb=>if b=true then (fe ρ1).bind λx=>(hV tg c fe ρ r).map (x.1 :: ·)else hV tg c fe ρ r:=by rw[hV]
@[simp] def bS (fi:FA)(nT:Nat)(cap:List Nat)(tg:FG)(c:FT)(fe:FE):FE:=λρ=>(fi ρ).bind λitems=>if items.length<=sizeLine then (hV tg c fe (cA nT cap ρ) items).map λds=>(.lst ds,true)else none
def Me (K:PySem.W.Frag)(n:Nat)(tg:FG)(g:TG):Prop:=∀(B H:Hp)(σ:St)(ρ ρ1:Env)(v:V)(d:D)(Q:St->Hp->Prop),(∀i,i<n->ρ[i]? = some none)->fE K B σ ρ->aU B H->Is K B v d->tg d ρ=some ρ1 ->
 ρ.length=σ.length->(∀σ1,fE K B σ1 ρ1->(∀B',fE K B' σ ρ->fE K B' σ1 ρ)->ρ.length=σ1.length->Q σ1 H)->g v σ H Q
theorem xl {K:PySem.W.Frag}{n i:Nat}(hi:i<n):Me K n (dA i) (jM i):=by
 intro B H σ ρ ρ1 v d Q cl rep s h e hl k;cases e
 have DA:i<σ.length:=by
  have:=(vV (cl i hi)).1;omega
 refine k _ ⟨rep.tb,λj e b q=>?_⟩ ?_ (by simpa using hl)
 ·rcases ce q with⟨rfl,p⟩|⟨ne,p⟩
  ·cases p
   exact⟨v,by simp[DA],h⟩
  ·obtain⟨w,h1,h2⟩:=rep.at' j e b p;exact⟨w,by rw[vB ne];exact h1,h2⟩
 ·intro B' Qs;refine⟨Qs.tb,λj e b q=>?_⟩;obtain⟨w,h1,h2⟩:=Qs.at' j e b q;have ne:i≠j:=λz=>by subst z;rw[cl i hi]at q;cases q
  exact⟨w,by rw[vB ne];exact h1,h2⟩
def JC (X:Cx)(wE:List Expr)(c:FT):Prop:=∀(ae:List (Addr×Obj))(s:Shared)(σ:St)(H:Hp)(Q:Bool->Hp->Prop),Inv X ae σ H s->CG X.K c σ H Q ->
 wpAny (model X.prog X.w) X.A (forIn wE true λc r=>if r=true then do let ok ←isTrue c X.env (eval c X.env);pure (ForInStep.yield ok)else pure (ForInStep.yield r)) (TP X ae σ Q) X.xe s
@[simp] noncomputable def gz:FT:=λ_=>some true
theorem j4:JC X [] gz:=by
 intro ae s σ H Q I h;obtain⟨B,ρ,c,sB,rep,e,q⟩:=h;cases e
 exact wpAny_tests_nil ⟨H,I,q H (.refl H)⟩
theorem fU (h:JT X e f):JC X [e] f:=λae s σ H Q I q=>wpAny_tests_one (h ae s σ H Q I q)
theorem pE {X:Cx}(l7:X.calm=true){tg df zj:Expr}{wE:List Expr}{scope:Scope}{pos:Pos}{cl:List (Str×Addr)}{N':List Str}{nT:Nat}{cap:List Nat}{rW:FG}{g:TG}{fc:FT}{fe:FE}
  (S:CompSc X scope cl) (cp:ni X N' scope cl nT cap)
  (hg:∀C s H fp,PG (fH X N' scope cl C s H fp) tg g) (JD:Me X.K nT rW g) (hc:∀C s H fp,JC (fH X N' scope cl C s H fp) wE fc) (he:∀C s H fp,JE (fH X N' scope cl C s H fp) zj fe)
  {ae:List (Addr×Obj)}{σ:St}{H2:Hp}{s2:Shared}{it:Addr}{fp:List Addr}{tn:Nat->Heap->Prop}{J:It}{N1:Hp}{ρ:Env}{items ds:List D}{E:Value->Shared->Prop}
  (I2:Inv X ae σ H2 s2) (T:Turn X.prog X.w X.K tg J fp it tn) (Jy:tn 0 s2.heap) (f2:∀b∈fp,np X ae H2 b)
  (rep:fE X.K N1 σ ρ) (sN:aU N1 H2) (J1:pD X.K J N1 items) (hsz:items.length<=sizeLine) (ec:hV rW fc fe (cA nT cap ρ) items=some ds) {RR:Value->Addr->Result->Shared->Prop}
  (Xm:∀(Dd C:Addr)(s':Shared)(H' N:Hp)(vs:List V)(m:Str->Option Value),H2 Dd=none->Inv X ae σ H' s'->s'.heap.Ns C m->np X ae H' C->Ext N1 N H2 H'->N Dd=some (.lst vs)->IsL X.K N vs ds->RR (.ref Dd) C (.ok .next) s'):
  wpAny (model X.prog X.w) X.A (newList []) (λlV s₃=>wpAny (model X.prog X.w) X.A (newFunctionEnv scope X.env.globals cl [] X.env.qual none .none (some X.env)) (λQt s₄=>
   codeAny (model X.prog X.w) X.A (.compStart (.ListComp zj [⟨tg,df,wE,0⟩] scope pos) 0 (.ref it) lV { Qt with scope:=relabel scope X.env }) (RR lV Qt.locals) s₄) E s₃) E s2:=by
 refine wpAny_newObj_type (wpAny_newFunctionEnv S.nocell (by intro y hy;simp at hy) (λh₁ AG hsb₁=>?_) S.kind);dsimp only at AG hsb₁ ⊢;have hD:H2 s2.heap.objs.size=none:=I2.fresh;have I3:Inv X ae σ (upd H2 s2.heap.objs.size (.lst [])) { s2 with heap:=s2.heap.push { cls:=.type "list",dict:=none,data:=.seq ([]:List Value).toArray } }:=I2.lnew (t':=s2.toks) (ys:=[]) (its:=[]) .nil (uN _);generalize hH3:s2.heap.push { cls:=.type "list",dict:=none,data:=.seq ([]:List Value).toArray }=g3 at AG hsb₁ I3 ⊢;have hC:g3.objs.size=s2.heap.objs.size+1:=by rw[←hH3,Heap.size_push]
 have JF:∀b o,s2.heap.get? b=some o->g3.get? b=some o:=λb o e=>hH3 ▸ vZ _ e;have DF:∀b o,g3.get? b=some o->h₁.get? b=some o:=λb o e=>hsb₁.extBut b o (vS (vX e)) (vZ _ e);have Og:∀b o,g3.get? b=some o->b≠g3.objs.size:=λb o e=>vS (vX e);have Vo:∀b∈fp,∃o,s2.heap.get? b=some o:=λb hb=>let ⟨o,e,_⟩:=T.obj 0 s2.heap Jy b hb;⟨o,e⟩;have Xn:∀b∈fp,b≠s2.heap.objs.size:=λb hb=>let ⟨o,e⟩:=Vo b hb;vS (vX e);have Vp:∀b∈fp,b≠g3.objs.size:=λb hb=>let ⟨o,e⟩:=Vo b hb;Og b o (JF b o e);have Vq:∀x c,X.env.cells.lookup x=some c->c≠g3.objs.size:=λx c e=>by
  obtain⟨v,z⟩:=I3.cell x c e;exact vS z.lt
 have Xo:(upd H2 s2.heap.objs.size (HO.lst [])) g3.objs.size=none:=I3.hok.fresh (vT _);have stk:∀b∈Cz X.stack,∃o,s2.heap.get? b=some o:=λb hb=>by
  obtain⟨_,o,ho,_⟩:=(I2.stack).mem hb;exact⟨o,ho⟩
 -- the block's context
 have ok:(fH X N' scope cl g3.objs.size { s2 with heap:=g3 } (upd H2 s2.heap.objs.size (.lst [])) fp).Ok:=by
  refine⟨I2.ok.mod,?_,I2.ok.glob,I2.ok.blt,vT _,λx y c e1 e2=>I2.ok.inj x y c (S.sub x c e1) (S.sub y c e2),λx h=>S.has x h,λx c h=>absurd h uX,I2.ok.hd,I2.ok.frames,.inl rfl,λb hb=>⟨Vp b hb,λx c e=>(f2 b hb).2.2.2.2.1 x c (S.sub x c e)⟩,λb o e=>?_,?_,λb o e hb=>?_,λb hb hz=>?_,I3.stack,λb hb=>I3.stkFree b hb⟩
  ·show(relabel scope X.env).kind=.function;exact S.kind
  ·exact I3.bs b o e
  ·exact vR I3.ok.bsz I3.sz
  ·have h1:=(f2 b hb).2.2.2.1;rcases h1 with z|z
   ·exact I2.ok.noex b o e z
   ·exact absurd (vQ (vX e) (vR I2.ok.bsz z)) (Nat.lt_irrefl _)
  ·rcases vP (I2.stkSub b hz)with z|z
   ·exact(f2 b hb).2.1 z
   ·exact(f2 b hb).2.2.1 z
 have I4:Inv (fH X N' scope cl g3.objs.size { s2 with heap:=g3 } (upd H2 s2.heap.objs.size (.lst [])) fp) [] (sf nT cap σ) (upd H2 s2.heap.objs.size (.lst [])) { s2 with heap:=h₁,toks:=s2.toks+([]:List (Str×Value)).length }:=by
  refine⟨ok,rfl,I2.bare,Un.kept DF,⟨_,AG,λj x v e1 e2 e3=>?_⟩,λx c e=>?_,Xo,λx c e=>I3.freeC x c (S.sub x c e),λp hp=>by simp at hp,I3.hok.kept DF,?_⟩
  ·obtain⟨k,i,rfl,h1,h2⟩:=uG e2;obtain⟨y,g1,g2,Vr,g4,g5⟩:=cp.get h1;have La:N'[nT+k]? = some x:=e1;rw[g1]at La;cases La;have DE:σ[i]? = some (some v):=by
    cases q:σ[i]? with
    |none=>rw[q]at h2;cases h2
    |some z=>rw[q]at h2;have:z=some v:=h2;rw[this]
   obtain⟨m,_,hl⟩:=I3.loc;obtain⟨u,r,l⟩:=hl i _ v g2 DE (Vr.elim (λz=>.inr (.inl z)) λz=>.inr (.inr z));refine⟨u,r,?_⟩;rcases l with⟨l,_⟩|⟨_,c,lc,ic⟩
   ·rcases Vr with z|z<;>(rw[z]at l;cases l)
   ·refine .inr ⟨g4,c,by show cl.lookup _=some c;rw[g5];exact lc,?_⟩;obtain⟨o,ho,hd⟩:=ic;exact⟨o,DF _ _ ho,hd⟩
  ·obtain⟨v,o,ho,hd⟩:=I3.cell x c (S.sub x c e);exact⟨v,o,DF _ _ ho,hd⟩
  ·show(sf nT cap σ).length=N'.length;unfold sf;rw[cp.len];simp
 have Tw:∀ {H':Hp},(∀b∈fp,H' b=none)->∀b∈fp,np (fH X N' scope cl g3.objs.size { s2 with heap:=g3 } (upd H2 s2.heap.objs.size (.lst [])) fp) [] H' b:=λhn b hb=>
  ⟨hn b hb,Vp b hb,ok.exfs b hb,.inl hb,λx c e=>(f2 b hb).2.2.2.2.1 x c (S.sub x c e),λp hp=>by simp at hp⟩
 have Qu:∀i,i<nT->(cA nT cap ρ)[i]? = some none:=λi hi=>by
  unfold cA;rw[List.getElem?_append_left (by simpa using hi),List.getElem?_replicate,if_pos hi]
 have Vs:N1 s2.heap.objs.size=none:=sN.free hD;have loop:∀s₃:Shared,s₃={ s2 with heap:=h₁,toks:=s2.toks+([]:List (Str×Value)).length } ->
   codeAny (model X.prog X.w) X.A (.compLoop (.ListComp zj [⟨tg,df,wE,0⟩] scope pos) 0 (.ref it) (.ref s2.heap.objs.size) (compEnvC scope cl g3.objs.size X.env)) (RR (.ref s2.heap.objs.size) g3.objs.size) s₃:=by
  rintro s₃ rfl;refine uF (λn s'=>∃(i:Nat)(N:Hp)(vs:List V)(es:List D)(σ':St)(H':Hp),Inv (fH X N' scope cl g3.objs.size { s2 with heap:=g3 } (upd H2 s2.heap.objs.size (.lst [])) fp) [] σ' H' s'/\tn i s'.heap/\(∀b∈fp,H' b=none) /\
   n=items.length - i/\i<=items.length/\fE X.K N1 σ' (cA nT cap ρ)/\(cA nT cap ρ).length=σ'.length/\Ext N1 N H2 H'/\N s2.heap.objs.size=none/\H' s2.heap.objs.size=some (.lst vs)/\vs.length<=i/\IsL X.K N vs es /\
   ∃r,hV rW fc fe (cA nT cap ρ) (items.drop i)=some r/\es++r=ds) ?_ items.length ?_
  ·rintro n s' ⟨i,N,vs,es,σ',H',I',ti,hn,rfl,hi,rp,bL,x,Tz,T1,zk,T2,r,er,RE⟩;have sH:aU N1 H':=x.bn.trans x.nh;by_cases fR:i<items.length
   ·obtain⟨j1,_⟩:=J1 i H' sH;obtain⟨go,yl⟩:=j1 items[i] (by simp[fR]);rw[List.drop_eq_getElem_cons fR]at er;unfold hV at er;obtain⟨ρ1,e1,er⟩:=oX er;obtain⟨b,e2,er⟩:=oX er;refine cV (T.item (fH X N' scope cl g3.objs.size { s2 with heap:=g3 } (upd H2 s2.heap.objs.size (.lst [])) fp) rfl rfl rfl l7 i [] s' σ' H' (λ_ _=>False) I' (Tw hn) ti go) λq s4 hq=>?_;obtain⟨u,rfl,hq⟩:=hq;refine cV hq λ_ s5 hq=>?_;obtain⟨xv,H5,I5,rx,y5,t5,Tj⟩:=hq;obtain⟨N5,x5,i5⟩:=yl xv H5 y5
    -- all that may be named at this Jz
    have x6:Ext N (join N N5) H' H5:=by
     refine⟨x5.hh,eY,λa o e=>?_,λa o e=>?_⟩
     ·cases z:N a with
      |some u'=>rw[eY _ _ z]at e;cases e;exact x5.hh _ _ (x.nh _ _ z)
      |none=>rw[eC z]at e;exact x5.nh _ _ e
     ·cases z:N a with
      |some u'=>rw[eY _ _ z]at e;cases e;exact .inl rfl
      |none=>
       rw[eC z]at e;rcases x5.new a o e with z'|z'
       ·rw[x.bn _ _ z']at z;cases z
       ·exact .inr z'
    have c5:aU N5 (join N N5):=λa o e=>by
     rcases x5.new a o e with z|z
     ·exact eY _ _ (x.bn _ _ z)
     ·rw[eC (x.nh.free z)];exact e
    have Vt:(join N N5) s2.heap.objs.size=none:=by
     cases z:join N N5 s2.heap.objs.size with
     |none=>rfl
     |some o=>
      rcases x6.new _ _ z with z'|z'
      ·rw[Tz]at z';cases z'
      ·rw[T1]at z';cases z'
    have lW:∀(s9:Shared)(σ9:St)(H9 N9:Hp)(Qw:List V)(RF:List D),Inv (fH X N' scope cl g3.objs.size { s2 with heap:=g3 } (upd H2 s2.heap.objs.size (.lst [])) fp) (nq fp s5.heap) σ9 H9 s9 ->
      fE X.K N1 σ9 (cA nT cap ρ)->(cA nT cap ρ).length=σ9.length->Ext N1 N9 H2 H9->N9 s2.heap.objs.size=none->H9 s2.heap.objs.size=some (.lst Qw)->Qw.length<=i+1->IsL X.K N9 Qw RF ->
      (∃r,hV rW fc fe (cA nT cap ρ) (items.drop (i+1))=some r/\RF++r=ds)->∃m,m<items.length - i/\∃(i:Nat)(N:Hp)(vs:List V)(es:List D)(σ':St)(H':Hp),Inv (fH X N' scope cl g3.objs.size { s2 with heap:=g3 } (upd H2 s2.heap.objs.size (.lst [])) fp) [] σ' H' s9/\tn i s9.heap/\(∀b∈fp,H' b=none) /\
       m=items.length - i/\i<=items.length/\fE X.K N1 σ' (cA nT cap ρ)/\(cA nT cap ρ).length=σ'.length/\Ext N1 N H2 H'/\N s2.heap.objs.size=none/\H' s2.heap.objs.size=some (.lst vs)/\vs.length<=i/\IsL X.K N vs es /\
       ∃r,hV rW fc fe (cA nT cap ρ) (items.drop i)=some r/\es++r=ds:=λs9 σ9 H9 N9 Qw RF I9 Xp l9 x9 n9 h9 v9 i9 Xq=>by
     refine⟨items.length - (i+1),by omega,i+1,N9,Qw,RF,σ9,H9,I9.pins_of λp hp=>by simp at hp,T.keep _ _ _ t5 λb hb o e=>(I9.pin (b,o) (mY _ (j0 hb e))).1,λb hb=>?_,rfl,fR,Xp,l9,x9,n9,h9,v9,i9,Xq⟩;obtain⟨o,e,d⟩:=T.obj _ _ t5 b hb;exact(I9.pin (b,o) (mY _ (j0 hb e))).2.1
    have Tk:Inv (fH X N' scope cl g3.objs.size { s2 with heap:=g3 } (upd H2 s2.heap.objs.size (.lst [])) fp) (nq fp s5.heap) σ' H5 s5:=by
     have:=I5.pinned (Tw Tj) (T.obj _ _ t5);rwa [List.nil_append]at this
    have RG:aU (join N N5) H5:=x6.nh;refine cV (hg _ _ _ _ _ s5 σ' H5 xv u (λσ6 H6=>H6=H5/\fE X.K (join N N5) σ6 ρ1/\fE X.K N1 σ6 (cA nT cap ρ)/\(cA nT cap ρ).length=σ6.length) Tk rx ?_) λ_ s6 ⟨σ6,H6,I6,eH,Vu,Vv,l6⟩=>?_
    ·refine JD (join N N5) H5 σ' (cA nT cap ρ) ρ1 xv items[i] _ Qu (rp.mono (x.bn.trans eY)) RG (i5.mono c5) e1 bL λσ1 r1 r2 l1=>⟨rfl,r1,r2 N1 rp,l1⟩
    ·subst eH;have T3:H6 s2.heap.objs.size=some (.lst vs):=x5.hh _ _ T1;refine cV (hc _ _ _ _ _ s6 σ6 H6 (λc H7=>c=b/\aU H6 H7) I6 ⟨join N N5,ρ1,b,RG,Vu,e2,λH7 h7=>⟨rfl,h7⟩⟩) λok s7 ⟨H7,I7,eb,h7⟩=>?_;subst eb;have x7:Ext N1 (join N N5) H2 H7:=(x.trans x6).trans (.grow RG h7);cases ok with
     |false=>
      rw[if_neg (by decide)]at er ⊢;exact lW s7 σ6 H7 (join N N5) vs es I7 Vv l6 x7 Vt (h7 _ _ T3) (Nat.le_succ_of_le zk) (T2.mono eY) ⟨r,er,RE⟩
     |true=>
      rw[if_pos rfl]at er ⊢;obtain⟨y,e3,er⟩:=oX er;obtain⟨r',e4,er⟩:=oY er;subst er;refine cV (he _ _ _ _ _ s7 σ6 H7 (λv H8=>∃N8,Ext (join N N5) N8 H7 H8/\Is X.K N8 v y.1) I7 ⟨join N N5,ρ1,y.1,y.2,RG.trans h7,Vu,e3,λv H8 N8 x8 i8 _=>⟨N8,x8,i8⟩⟩) λw8 s8 ⟨v8,H8,I8,r8,N8,x8,i8⟩=>?_;have Xr:H8 s2.heap.objs.size=some (.lst vs):=x8.hh _ _ (h7 _ _ T3);refine cV (sM _ s8 σ6 H8 (.ref s2.heap.objs.size) [v8] (.ref s2.heap.objs.size) [w8] (λ_ H9=>H9=upd H8 s2.heap.objs.size (.lst (vs++[v8]))) I8 rfl (.cons r8 .nil) ⟨_,vs,v8,rfl,rfl,Xr,by omega,rfl⟩) λ_ s9 ⟨_,H9,I9,_,e9⟩=>?_;subst e9;have Vw:N8 s2.heap.objs.size=none:=by
       cases z:N8 s2.heap.objs.size with
       |none=>rfl
       |some o=>
        rcases x8.new _ _ z with z'|z'
        ·rw[Vt]at z';cases z'
        ·rw[h7 _ _ T3]at z';cases z'
      refine lW s9 σ6 _ N8 (vs++[v8]) (es++[y.1]) I9 Vv l6 ((x7.trans x8).upd hD Vw) Vw aE (by rw[uZ,List.length_singleton];omega) ((T2.mono (eY.trans x8.bn)).append (.cons i8 .nil)) ⟨r',e4,by rw[List.append_assoc];exact RE⟩
   ·have ei:i=items.length:=by omega
    subst ei;rw[List.drop_eq_nil_of_le (vT _)]at er;cases er
    rw[uQ]at RE;subst RE;refine cV (T.done (fH X N' scope cl g3.objs.size { s2 with heap:=g3 } (upd H2 s2.heap.objs.size (.lst [])) fp) rfl rfl rfl l7 items.length [] s' σ' H' (λ_ _=>False) I' (Tw hn) ti ((J1 _ H' sH).2 (vT _))) λq s4 ⟨hq,I9⟩=>?_;subst hq;obtain⟨m,hm,_⟩:=I9.loc;have u1:Un (Cz X.stack) fp H2 (upd H2 s2.heap.objs.size (.lst [])) s2.heap g3:=Un.laid JF (vT _) hD;have x9:Ext N1 (upd N s2.heap.objs.size (.lst vs)) H2 H':=by
     refine⟨x.hh,x.bn.trans λa o e=>by rw[aI (λz=>by subst z;rw[Tz]at e;cases e)];exact e,λa o e=>?_,λa o e=>?_⟩
     ·by_cases z:a=s2.heap.objs.size
      ·subst z;rw[aE]at e;cases e;exact T1
      ·rw[aI z]at e;exact x.nh _ _ e
     ·by_cases z:a=s2.heap.objs.size
      ·subst z;exact .inr hD
      ·rw[aI z]at e;exact x.new _ _ e
    refine Xm s2.heap.objs.size g3.objs.size s4 H' (upd N s2.heap.objs.size (.lst vs)) vs m hD (I2.call' (ch:=fp) I9.os (u1.trans I9.base) I9.hok I9.bare λb hb=>⟨(f2 b hb).2.2.2.1,(f2 b hb).2.1,(f2 b hb).2.2.2.2.1,(f2 b hb).2.2.2.2.2⟩) hm (I2.fpOk (by rw[hC];exact Nat.le_succ _) I9.free) x9 aE
     (T2.mono λa o e=>by rw[aI (λz=>by subst z;rw[Tz]at e;cases e)];exact e)
  ·refine⟨0,N1,[],[],sf nT cap σ,_,I4,T.keep _ _ _ Jy λb hb o e=>DF _ _ (JF _ _ e),λb hb=>?_,rfl,uN _,rep.caps,?_,(Ext.refl sN).upd hD Vs,Vs,aE,uN _,.nil,ds,by simpa using ec,rfl⟩
   ·rw[aI (Xn b hb)];exact(f2 b hb).1
   ·unfold cA sf;simp
 exact codeAny_compStart_list (loop _ rfl) (T.self _ 0 _ _ _ (T.keep _ _ _ Jy λb hb o e=>DF _ _ (JF _ _ e)) (loop _ rfl))
theorem HY (l7:X.calm=true) 
  (S:CompSc X scope cl) (cp:ni X N' scope cl nT cap) (hi:JI X tg df fi)
  (hg:∀C s H fp,PG (fH X N' scope cl C s H fp) tg g) (JD:Me X.K nT rW g) (hc:∀C s H fp,JC (fH X N' scope cl C s H fp) wE fc) (he:∀C s H fp,JE (fH X N' scope cl C s H fp) zj fe)
  (hs:∀x,foldedSetIterable df X.env x=pure x:=by intro _;rfl):
  JE X (.ListComp zj [⟨tg,df,wE,0⟩] scope pos) (bS fi nT cap rW fc fe):=by
 intro ae s σ H Q I h;obtain⟨B,ρ,d,b,sB,rep,e,q⟩:=h;obtain⟨items,ei,e⟩:=oX e;have hsz:items.length<=sizeLine:=Decidable.byContradiction λz=>by rw[if_neg z]at e;cases e
 rw[if_pos hsz]at e;obtain⟨ds,ec,e⟩:=oY e;cases e
 rw[eval_ListComp];refine wpAny_comprehension_free (use:=none) rfl hs S.clos S.kind S.names (cV (hi ae s σ H (λJ H2=>∃N1,Ext B N1 H H2/\pD X.K J N1 items) I ⟨B,ρ,items,sB,rep,ei,λJ H2 N1 x1 j1=>⟨N1,x1,j1⟩⟩) λv s1 h1=>cV h1 λR9 s2 h2=>?_);obtain⟨it,fp,tn,J,H2,e,I2,T,Jy,f2,N1,x1,j1⟩:=h2;subst e;refine pE l7 S cp hg JD hc he I2 T Jy f2 (rep.mono x1.bn) x1.nh j1 hsz ec (RR:=λlV C=>compPost (model X.prog X.w) X.A X.xe none (EP X ae σ Q) lV C) ?_;intro Dd C s' H' N vs m hD I' hm fC x hN hl;refine⟨m,hm,λh' hs'=>⟨.ref Dd,H',?_,rfl,q _ H' N (x1.trans x) (.lst (iF.of hN) hl) λ_=>⟨Dd,vs,ds,rfl,rfl,x1.hh.free hD,hN,hl⟩⟩⟩;obtain⟨c0,c1,c2,c3,c4,c5⟩:=fC;exact I'.turned (t':=s'.toks) (λb o hb e=>(hs'.2 b hb).trans e) c0 c1 c3 c4 c5
theorem HZ (l7:X.calm=true) 
  (hN:X.N.Nodup) (DG:X.N[i]? = some y) (hy:X.env.kindOf y=some .local)
  (Qx:swapsWith (.ListComp zj [⟨tg,df,wE,0⟩] scope pos) (some (.Name y py)) spos.line X.env=pure true)
  (S:CompSc X scope cl) (cp:ni X N' scope cl nT cap) (hi:JI X tg df fi)
  (hg:∀C s H fp,PG (fH X N' scope cl C s H fp) tg g) (JD:Me X.K nT rW g) (hc:∀C s H fp,JC (fH X N' scope cl C s H fp) wE fc) (he:∀C s H fp,JE (fH X N' scope cl C s H fp) zj fe)
  (hs:∀x,foldedSetIterable df X.env x=pure x:=by intro _;rfl):
  JS X (.Assign [.Name y py] (.ListComp zj [⟨tg,df,wE,0⟩] scope pos) spos) (aQ i (bS fi nT cap rW fc fe)):=by
 intro ae s σ H E I h;have h2:wU (tD X.K (bS fi nT cap rW fc fe)) (jM i) E σ H:=AT h;obtain⟨B,ρ,d,b,sB,rep,e,q⟩:=h2;obtain⟨items,ei,e⟩:=oX e;have hsz:items.length<=sizeLine:=Decidable.byContradiction λz=>by rw[if_neg z]at e;cases e
 rw[if_pos hsz]at e;obtain⟨ds,ec,e⟩:=oY e;cases e
 rw[exec_Assign_Name_used _ _ _ _ Qx];refine wX (wpAny_standAt (wX ?_));show wpAny _ _ (do let _ ←comprehension (.ListComp zj [⟨tg,df,wE,0⟩] scope pos) scope X.env _ (newList []) false (eval df X.env) (some (assign (.Name y py) X.env))) _ _ s;refine wX (wpAny_mono (wpAny_comprehension_free (use:=some (assign (.Name y py) X.env)) (Q:=λ_ s'=>SP X ae E .next s') rfl hs S.clos S.kind S.names
  (cV (hi ae s σ H (λJ H2=>∃N1,Ext B N1 H H2/\pD X.K J N1 items) I ⟨B,ρ,items,sB,rep,ei,λJ H2 N1 x1 j1=>⟨N1,x1,j1⟩⟩) λv s1 h1=>cV h1 λR9 s2 h2=>?_)) (λ_ s' hq=>wY (wY hq)) λ_ _ e=>e)
 obtain⟨it,fp,tn,J,H2,e,I2,T,Jy,f2,N1,x1,j1⟩:=h2;subst e;refine pE l7 S cp hg JD hc he I2 T Jy f2 (rep.mono x1.bn) x1.nh j1 hsz ec (RR:=λlV C=>compPost (model X.prog X.w) X.A X.xe (some (assign (.Name y py) X.env)) (λ_ s'=>SP X ae E .next s') lV C) ?_;intro Dd C s' H' N vs m hD I' hm fC x Vx hl;show wpAny _ _ (assign (.Name y py) X.env (.ref Dd)) _ _ s';obtain⟨c0,c1,c2,c3,c4,c5⟩:=fC;refine wpAny_assign_Name (sA I' hN DG (.inl hy) (r:=show ba (.ref Dd) (.ref Dd)from rfl) (λs9 I9 ⟨a,sb,ha⟩=>?_) (.inr hy));have nC:C≠a:=by
  rcases ha with z|z
  ·rw[z];exact c1
  ·exact λw=>c4 y a z w.symm
 refine⟨m,hm.sameBut sb nC,λh' hs'=>⟨_,H',?_,q _ H' N (x1.trans x) (.lst (iF.of Vx) hl) λ_=>⟨Dd,vs,ds,rfl,rfl,x1.hh.free hD,Vx,hl⟩⟩⟩;exact I9.turned (t':=s9.toks) (λb o hb e=>(hs'.2 b hb).trans e) c0 c1 c3 c4 c5
section
variable {X:Cx}{a b c e:Expr}{pos:Pos}
theorem PE.to (h:PE X e t)(k:∀σ H Q,t' σ H Q->t σ H Q):PE X e t':=λae s σ H Q I q=>h ae s σ H Q I (k σ H Q q)
theorem PT.to (h:PT X e t)(k:∀σ H Q,t' σ H Q->t σ H Q):PT X e t':=λae s σ H Q I q=>h ae s σ H Q I (k σ H Q q)
theorem PW.to (h:PW X e t)(k:∀σ H Q,t' σ H Q->t σ H Q):PW X e t':=λwh ae s σ H Q I q=>h wh ae s σ H Q I (k σ H Q q)
theorem PA.to (h:PA X es t)(k:∀σ H Q,t' σ H Q->t σ H Q):PA X es t':=λpos ae s σ H Q I q=>h pos ae s σ H Q I (k σ H Q q)
theorem PS.to {st:Stmt}{t t':TS}(h:PS X st t)(k:∀E σ H,t' E σ H->t E σ H):PS X st t':=λae s σ H E I q=>h ae s σ H E I (k E σ H q)
theorem uq.to {st:List Stmt}{t t':TS}(h:uq X st t)(k:∀E σ H,t' E σ H->t E σ H):uq X st t':=λae s σ H E I q=>h ae s σ H E I (k E σ H q)
theorem PI.to (h:PI X tg it t)(k:∀σ H Q,t' σ H Q->t σ H Q):PI X tg it t':=λae s σ H Q I q=>h ae s σ H Q I (k σ H Q q)
theorem CI {K:PySem.W.Frag}{d:D}{v:V}(i:∀B,Is K B v d){σ:St}{H:Hp}{Q:VK}(h:tD K (fC d) σ H Q):tC v σ H Q:=by
 obtain⟨B,ρ,d',b,s,r,e,q⟩:=h;cases e
 exact q.one s (i B)
theorem ag (i:Nat)(hN:X.N[i]? = some x:=by rfl)(hv:DY X.env.scope x:=by first|exact Or.inl rfl|exact Or.inr (Or.inl rfl)|exact Or.inr (Or.inr rfl))(hd:(x == ("__debug__" : Str))=false:=by decide)
  (jz:(x == ("__classdict__" : Str))=false:=by decide):JE X (.Name x pos) (aj i):=PE.to (lA hN hv hd jz) λ_ _ _ h=>Mb h
theorem av:JE X (.Constant (.int i) j pos) (fC (.int i)):=PE.to Ls λ_ _ _ h=>CI (λ_=>.int i) h
theorem ji:JE X (.Constant (.bool i) j pos) (fC (.bl i)):=PE.to O9 λ_ _ _ h=>CI (λ_=>.bl i) h
theorem eI:JE X (.Constant .none j pos) (fC .non):=PE.to Lu λ_ _ _ h=>CI (λ_=>.non) h
theorem aB:JE X (.Constant (.str x) j pos) (fC (.str x)):=PE.to Lv λ_ _ _ h=>CI (λ_=>.str x) h
theorem Ia (hg:Gl X x)(hm:X.mg x=some u)(r:ba v u)(i:∀B,Is X.K B v d)(hd:(x == ("__debug__" : Str))=false:=by decide):JE X (.Name x pos) (fC d):=PE.to (AJ hg hm r hd) λ_ _ _ h=>CI i h
theorem ay (ho:dJ X (binaryOp op) (rD X.K f))(ha:JE X a fa)(hb:JE X b fb):JE X (.BinOp a op b pos) (f2 f fa fb):=PE.to (JY ho ha hb) λ_ _ _ h=>HN h
theorem E5 (ho:OR X (unaryOp op) (Sy X.K f))(ha:JE X a fa):JE X (.UnaryOp op a pos) (f1 f fa):=PE.to (OS ho ha) λ_ _ _ h=>Sz h
theorem cz (ho:dJ X (compareOp op) (rD X.K f))(ha:JE X a fa)(hb:JE X b fb)(hm:behindInMarks op b=false:=by first|exact jW _ (by decide) (by decide)|rfl):JE X (.Compare a [op] [b] pos) (f2 f fa fb):=PE.to (HA ho ha hb hm) λ_ _ _ h=>HN h
theorem E6 {K:PySem.W.Frag}{f:FE}{σ:St}{H:Hp}{Q:Bool->Hp->Prop}(h:CG K (bw f) σ H Q):tD K f σ H λx H'=>∃k,x=.bl k/\Q k H':=by
 obtain⟨B,ρ,c,s,r,e,q⟩:=h;unfold bw at e;split at e
 ·rename_i c' b' ef;cases e
  refine⟨B,ρ,.bl c,b',s,r,ef,λv H' N x i _=>?_⟩;cases i
  exact⟨c,rfl,q H' x.hh⟩
 ·cases e
theorem aM (ho:dJ X (compareOp op) (rD X.K f))(ha:JE X a fa)(hb:JE X b fb)(hm:behindInMarks op b=false:=by first|exact jW _ (by decide) (by decide)|rfl):JT X (.Compare a [op] [b] pos) (bw (f2 f fa fb)) :=
 PT.to (HB ho ha hb hm) λ_ _ _ h=>HN (E6 h)
theorem bW (h:JE X e f)(he:∀rN,isTrue e X.env rN=(do let v ←rN;standAt e.pos;holding [v] (truthy v)):=by intro _;rfl):JT X e (bw f):=PT.to (Lz h he) λ_ _ _ q=>E6 q
@[simp] noncomputable def nz (f g:D->D->Option (D×Bool))(fa fb fc:FE):FE:=λρ=>(fa ρ).bind λx=>(fb ρ).bind λy=>match f x.1 y.1 with
 |some (.bl true,_)=>(fc ρ).bind λz=>g y.1 z.1
 |some (.bl false,_)=>some (.bl false,false)
 |_=>none
theorem E7 {K:PySem.W.Frag}{f g:D->D->Option (D×Bool)}{fa fb fc:FE}{σ:St}{H:Hp}{Q:VK}(h:tD K (nz f g fa fb fc) σ H Q):Ef (rD K f) (rD K g) (tD K fa) (tD K fb) (tD K fc) σ H Q:=by
 obtain⟨B,ρ,d,b,s,r,e,q⟩:=h;obtain⟨x,ex,e⟩:=oX e;obtain⟨y,ey,e⟩:=oX e;refine⟨B,ρ,x.1,x.2,s,r,ex,λv H1 N1 x1 i1 _=>⟨N1,ρ,y.1,y.2,x1.nh,r.mono x1.bn,ey,λv2 H2 N2 x2 i2 _=>?_⟩⟩;split at e
 ·rename_i b' ef;obtain⟨z,ez,e⟩:=oX e;refine⟨N2,x.1,y.1,.bl true,b',x2.nh,i1.mono x2.bn,i2,ef,λv3 H3 N3 x3 i3 _=>?_⟩;cases i3
  refine⟨true,rfl,?_⟩;rw[if_pos rfl];refine⟨N3,ρ,z.1,z.2,x3.nh,r.mono (x1.bn.trans (x2.bn.trans x3.bn)),ez,λv4 H4 N4 x4 i4 _=>⟨N4,y.1,z.1,d,b,x4.nh,i2.mono (x3.bn.trans x4.bn),i4,e,?_⟩⟩;exact q.into ((x1.trans x2).trans (x3.trans x4))
 ·rename_i b' ef;cases e
  refine⟨N2,x.1,y.1,.bl false,b',x2.nh,i1.mono x2.bn,i2,ef,λv3 H3 N3 x3 i3 _=>?_⟩;cases i3
  refine⟨false,rfl,?_⟩;rw[if_neg (by decide)];exact(q.into ((x1.trans x2).trans x3)).one x3.nh (.bl false)
 ·cases e
theorem E8 (ho:dJ X (compareOp op) (rD X.K f))(wD:dJ X (compareOp Oi) (rD X.K g))(ha:JE X a fa)(hb:JE X b fb)(hc:JE X c fc)
  (hm:lastMarks [op,Oi] [b,c]=false:=by with_unfolding_all rfl):JE X (.Compare a [op,Oi] [b,c] pos) (nz f g fa fb fc):=PE.to (Eg ho wD ha hb hc hm) λ_ _ _ h=>E7 h
theorem Ib {K:PySem.W.Frag}{f g:FT}{σ:St}{H:Hp}{Q:Bool->Hp->Prop}(h:CG K (eE f g) σ H Q):OB (CG K f) (CG K g) σ H Q:=by
 obtain⟨B,ρ,c,s,r,e,q⟩:=h;unfold eE at e;cases ef:f ρ with
 |none=>rw[ef]at e;cases e
 |some k=>
  rw[ef]at e;refine⟨B,ρ,k,s,r,ef,λH1 h1=>?_⟩;cases k with
  |true=>rw[if_pos rfl];exact⟨B,ρ,c,s.trans h1,r,e,λH2 h2=>q H2 (h1.trans h2)⟩
  |false=>rw[if_neg (by decide)];cases e;exact q H1 h1
theorem Mf {K:PySem.W.Frag}{f g:FT}{σ:St}{H:Hp}{Q:Bool->Hp->Prop}(h:CG K (j3 f g) σ H Q):U6 (CG K f) (CG K g) σ H Q:=by
 obtain⟨B,ρ,c,s,r,e,q⟩:=h;unfold j3 at e;cases ef:f ρ with
 |none=>rw[ef]at e;cases e
 |some k=>
  rw[ef]at e;refine⟨B,ρ,k,s,r,ef,λH1 h1=>?_⟩;cases k with
  |false=>rw[if_neg (by decide)];exact⟨B,ρ,c,s.trans h1,r,e,λH2 h2=>q H2 (h1.trans h2)⟩
  |true=>rw[if_pos rfl];cases e;exact q H1 h1
theorem Ic {K:PySem.W.Frag}{f:FT}{σ:St}{H:Hp}{Q:Bool->Hp->Prop}(h:CG K (fz f) σ H Q):OC (CG K f) σ H Q:=by
 obtain⟨B,ρ,c,s,r,e,q⟩:=h;obtain⟨k,ek,e⟩:=oY e;subst e;exact⟨B,ρ,k,s,r,ek,λH1 h1=>q H1 h1⟩
variable {aD:List Expr}
theorem gQ (ha:JT X a f):JW X (.BoolOp .And [a] pos) f:=Hs ha
theorem kh (ha:JT X a f):JW X (.BoolOp .Or [a] pos) f:=L0 ha
theorem iU (ha:JT X a f)(hb:JW X (.BoolOp .And (b::aD) pos) g):JW X (.BoolOp .And (a::b::aD) pos) (eE f g):=PW.to (L3 ha hb) λ_ _ _ h=>Ib h
theorem ln (ha:JT X a f)(hb:JW X (.BoolOp .Or (b::aD) pos) g):JW X (.BoolOp .Or (a::b::aD) pos) (j3 f g):=PW.to (OD ha hb) λ_ _ _ h=>Mf h
theorem ki (h:JW X e f):JT X e f:=h.pt
theorem fW (ha:JT X a f):JT X (.UnaryOp .Not a pos) (fz f):=PT.to (L4 ha) λ_ _ _ h=>Ic h
@[simp] noncomputable def j5 (f g:FE):FE:=λρ=>match f ρ with|some (.bl true,_)=>g ρ|some (.bl false,_)=>some (.bl false,false)|_=>none
@[simp] noncomputable def Hd (f g:FE):FE:=λρ=>match f ρ with|some (.bl true,_)=>some (.bl true,false)|some (.bl false,_)=>g ρ|_=>none
@[simp] noncomputable def zQ (f:FE):FE:=λρ=>match f ρ with|some (.bl c,_)=>some (.bl (!c),false)|_=>none
theorem gJ (ha:JE X a f)(hb:JE X (.BoolOp .And (b::aD) pos) g):JE X (.BoolOp .And (a::b::aD) pos) (j5 f g):=PE.to (L6 ha hb) λσ H Q h=>by
 obtain⟨B,ρ,d,k,s,r,e,q⟩:=h;unfold j5 at e;split at e
 ·rename_i b' ef;refine⟨B,ρ,_,_,s,r,ef,λv H1 N1 x1 i1 _=>?_⟩;cases i1
  refine⟨true,rfl,?_⟩;rw[if_pos rfl];exact⟨N1,ρ,d,k,x1.nh,r.mono x1.bn,e,q.into x1⟩
 ·rename_i b' ef;cases e
  refine⟨B,ρ,_,_,s,r,ef,λv H1 N1 x1 i1 _=>?_⟩;cases i1
  refine⟨false,rfl,?_⟩;rw[if_neg (by decide)];exact(q.into x1).one x1.nh (.bl false)
 ·cases e
theorem AU (ha:JE X a f)(hb:JE X (.BoolOp .Or (b::aD) pos) g):JE X (.BoolOp .Or (a::b::aD) pos) (Hd f g):=PE.to (OG ha hb) λσ H Q h=>by
 obtain⟨B,ρ,d,k,s,r,e,q⟩:=h;unfold Hd at e;split at e
 ·rename_i b' ef;cases e
  refine⟨B,ρ,_,_,s,r,ef,λv H1 N1 x1 i1 _=>?_⟩;cases i1
  refine⟨true,rfl,?_⟩;rw[if_pos rfl];exact(q.into x1).one x1.nh (.bl true)
 ·rename_i b' ef;refine⟨B,ρ,_,_,s,r,ef,λv H1 N1 x1 i1 _=>?_⟩;cases i1
  refine⟨false,rfl,?_⟩;rw[if_neg (by decide)];exact⟨N1,ρ,d,k,x1.nh,r.mono x1.bn,e,q.into x1⟩
 ·cases e
theorem eZ (h:JE X a f):JE X (.BoolOp op [a] pos) f:=L5 h
theorem Mg (ha:JE X a f):JE X (.UnaryOp .Not a pos) (zQ f):=PE.to (L7 ha) λσ H Q h=>by
 obtain⟨B,ρ,d,k,s,r,e,q⟩:=h;unfold zQ at e;split at e
 ·rename_i c b' ef;cases e
  refine⟨B,ρ,_,_,s,r,ef,λv H1 N1 x1 i1 _=>?_⟩;cases i1
  exact⟨c,rfl,(q.into x1).one x1.nh (.bl _)⟩
 ·cases e
variable {es:List Expr}
theorem am:JA X [] ai:=PA.to jX λ_ _ _ h=>HQ h
theorem ah (ha:JE X e f)(hr:JA X es g)(hs:starEach (e::es) X.env=(false,eval e X.env)::starEach es X.env:=by rfl):JA X (e::es) (af f g):=PA.to (iI ha hr hs) λ_ _ _ h=>Ew h
@[simp] noncomputable def aV:List D->Option (D×Bool):=λds=>if ds.length<=sizeLine then some (.tup ds,false)else none
@[simp] noncomputable def bH:List D->Option (D×Bool):=λds=>if ds.length<=sizeLine then some (.lst ds,true)else none
theorem aT {x1}(h:JA X es f):JE X (.Tuple es x1 pos) (fA aV f):=PE.to (zC h) λσ H Q q=>by
 obtain⟨B,ρ,ds,s,r,e,k⟩:=HP q;refine⟨B,ρ,ds,s,r,e,λvs H1 N1 x1 i1=>?_⟩;obtain⟨B2,Vy,d,b,s2,i2,e2,k2⟩:=k vs H1 N1 x1 i1;unfold aV at e2;split at e2
 ·rename_i hz;cases e2
  refine⟨by rw[i2.length];exact hz,λp hp=>k2 _ _ (upd B2 p (.tup vs)) (.laid s2 hp) (.tup (jf.of aE) (i2.mono (Ext.laid s2 hp).bn)) (by simp)⟩
 ·cases e2
theorem bG (h:JA X es f):JE X (.List es pos) (fA bH f):=PE.to (LO h) λσ H Q q=>by
 obtain⟨B,ρ,ds,s,r,e,k⟩:=HP q;refine⟨B,ρ,ds,s,r,e,λvs H1 N1 x1 i1=>?_⟩;obtain⟨B2,Vy,d,b,s2,i2,e2,k2⟩:=k vs H1 N1 x1 i1;unfold bH at e2;split at e2
 ·rename_i hz;cases e2
  refine⟨by rw[i2.length];exact hz,λp hp=>k2 _ _ (upd B2 p (.lst vs)) (.laid s2 hp) (.lst (iF.of aE) (i2.mono (Ext.laid s2 hp).bn)) λ_=>⟨p,vs,Vy,rfl,rfl,hp,aE,i2.mono (Ext.laid s2 hp).bn⟩⟩
 ·cases e2
end
section
variable {X:Cx}
theorem iV (h:dJ X f r)(k:∀x y H Q,r' x y H Q->r x y H Q):dJ X f r':=λae s σ H x y v u Q I rx ry q=>h ae s σ H x y v u Q I rx ry (k x y H Q q)
noncomputable def DP (f g:D->D->Option (D×Bool)):D->D->Option (D×Bool):=λx y=>match f x y with|some r=>some r|none=>g x y
theorem nA (h:dJ X s (rD X.K f))(h':dJ X s (rD X.K g)):dJ X s (rD X.K (DP f g)):=by
 intro ae st σ H x y v u Q I rx ry q;obtain⟨B,dx,dy,d,b,sB,ix,iy,e,q⟩:=q;unfold DP at e;split at e
 ·rename_i r ef;cases e
  exact h ae st σ H x y v u Q I rx ry ⟨B,dx,dy,_,_,sB,ix,iy,ef,q⟩
 ·exact h' ae st σ H x y v u Q I rx ry ⟨B,dx,dy,_,_,sB,ix,iy,e,q⟩
@[simp] noncomputable def wJ (C:Int->Int->Bool)(g:Int->Int->D):D->D->Option (D×Bool)
 |.int i,.int j=>if C i j=true then some (g i j,false)else none
 |_,_=>none
theorem uH (h:dJ X s (rI C g))(hC:∀i j,C' i j=true->C i j)(hg:∀i j B,Is X.K B (g i j) (g' i j)):dJ X s (rD X.K (wJ C' g')):=by
 refine iV h λx y H Q q=>?_;obtain⟨B,dx,dy,d,b,sB,ix,iy,e,q⟩:=q;cases ix<;>cases iy<;>try (simp[wJ]at e;done)
 rename_i i j;simp only[wJ]at e;split at e
 ·rename_i hc;cases e
  exact⟨i,j,rfl,rfl,hC i j hc,q.one sB (hg i j B)⟩
 ·cases e
theorem hW (h:dJ X s (GZ g))(hg:∀i j B,Is X.K B (g i j) (g' i j)):dJ X s (rD X.K (wJ (λ_ _=>true) g')):=by
 refine iV h λx y H Q q=>?_;obtain⟨B,dx,dy,d,b,sB,ix,iy,e,q⟩:=q;cases ix<;>cases iy<;>try (simp[wJ]at e;done)
 rename_i i j;simp only[wJ,if_true]at e;cases e
 exact⟨i,j,rfl,rfl,q.one sB (hg i j B)⟩
abbrev Mh:D->D->Option (D×Bool):=wJ (λ_ _=>true) λi j=>.int (i+j)
abbrev zR:D->D->Option (D×Bool):=wJ (λ_ _=>true) λi j=>.int (i - j)
abbrev Mi:D->D->Option (D×Bool):=wJ (λi j=>decide ((-18446744073709551616<i/\i<18446744073709551616)∨(-18446744073709551616<j/\j<18446744073709551616))) λi j=>.int (i*j)
abbrev cS:D->D->Option (D×Bool):=wJ (λ_ j=>decide (0<j/\j<1073741824)) λi j=>.int (i / j)
abbrev bI:D->D->Option (D×Bool):=wJ (λ_ j=>decide (0<j)) λi j=>.int (i % j)
abbrev Pq:D->D->Option (D×Bool):=wJ (λ_ _=>true) λi j=>.int (Builtin.bitAnd i j)
abbrev UJ:D->D->Option (D×Bool):=wJ (λ_ _=>true) λi j=>.bl (decide (i<j))
abbrev S1:D->D->Option (D×Bool):=wJ (λ_ _=>true) λi j=>.bl (decide (i<=j))
abbrev He:D->D->Option (D×Bool):=wJ (λ_ _=>true) λi j=>.bl (decide (j<i))
abbrev S2:D->D->Option (D×Bool):=wJ (λ_ _=>true) λi j=>.bl (decide (j<=i))
theorem Pr:dJ X (binaryOp .Add) (rD X.K Mh):=hW LH λ_ _ _=>.int _
theorem E9:dJ X (binaryOp .Sub) (rD X.K zR):=hW LI λ_ _ _=>.int _
theorem Ps:dJ X (binaryOp .Mult) (rD X.K Mi):=uH LJ (λi j h=>by have h:=of_decide_eq_true h;unfold Hy;omega) λ_ _ _=>.int _
theorem bN:dJ X (binaryOp .FloorDiv) (rD X.K cS):=uH Hz (λi j h=>by have h:=of_decide_eq_true h;unfold OT;omega) λ_ _ _=>.int _
theorem bJ:dJ X (binaryOp .Mod) (rD X.K bI):=uH LK (λ_ _ h=>of_decide_eq_true h) λ_ _ _=>.int _
theorem Pt:dJ X (binaryOp .BitAnd) (rD X.K Pq):=hW LL λ_ _ _=>.int _
theorem S3:dJ X (compareOp .Lt) (rD X.K UJ):=hW OU λ_ _ _=>.bl _
theorem S4:dJ X (compareOp .LtE) (rD X.K S1):=hW OV λ_ _ _=>.bl _
theorem EA:dJ X (compareOp .Gt) (rD X.K He):=hW OW λ_ _ _=>.bl _
theorem S5:dJ X (compareOp .GtE) (rD X.K S2):=hW OX λ_ _ _=>.bl _
@[simp] noncomputable def Ki (C:Str->Str->Bool)(g:Str->Str->D):D->D->Option (D×Bool)
 |.str i,.str j=>if C i j=true then some (g i j,false)else none
 |_,_=>none
abbrev EB:D->D->Option (D×Bool):=Ki (λi j=>decide (i.length+j.length<=sizeLine)) λi j=>.str (i++j)
abbrev Pu:D->D->Option (D×Bool):=Ki (λ_ _=>true) λi j=>.bl (!decide (j.cps.toList<i.cps.toList))
theorem Mj:dJ X (binaryOp .Add) (rD X.K EB):=by
 refine iV zA λx y H Q q=>?_;obtain⟨B,dx,dy,d,b,sB,ix,iy,e,q⟩:=q;cases ix<;>cases iy<;>try (simp[EB,Ki]at e;done)
 rename_i i j;simp only[EB,Ki]at e;split at e
 ·rename_i hc;cases e
  exact⟨i,j,rfl,rfl,of_decide_eq_true hc,q.one sB (.str _)⟩
 ·cases e
theorem Pw:dJ X (compareOp .LtE) (rD X.K Pu):=by
 intro ae s σ H x y v u Q I rx ry q;obtain⟨B,dx,dy,d,b,sB,ix,iy,e,q⟩:=q;cases ix<;>cases iy<;>try (simp[Pu,Ki]at e;done)
 rename_i i j;simp only[Pu,Ki,if_true]at e;cases e
 obtain⟨t,rfl⟩:=rx;obtain⟨t',rfl⟩:=ry;exact PySem.P.le_str ⟨.bl _,H,I,rfl,q.one sB (.bl _)⟩
end
section
variable {X:Cx}{a b c e:Expr}{pos:Pos}{st:Stmt}{aD:List Stmt}
theorem dN:wI X [] bp:=uq.to Ht λ_ _ _ h=>Ey h
theorem ao (h1:JS X st g)(h2:wI X aD h):wI X (st::aD) (aA g h):=uq.to (Ea h1 h2) λ_ _ _ q=>HR q
theorem bq (h1:JS X st g):wI X [st] g:=Hu h1
theorem eP {c:Expr}{a b:List Stmt}{fc:FT}{g h:FS}(hc:JT X c fc)(ha:wI X a g)(hb:wI X b h):JS X (.If c a b pos) (eG fc g h):=PS.to (OL hc ha hb) λ_ _ _ q=>Mc q
theorem EC (he:JE X e f):JS X (.Return (some e) pos) (aZ f):=PS.to (Eb he) λ_ _ _ q=>HS q
theorem mo (i:Nat)(hN:X.N[i]? = some x:=by rfl)(hv:DY X.env.scope x:=by first|exact Or.inl rfl|exact Or.inr (Or.inl rfl)|exact Or.inr (Or.inr rfl))(hd:(x == ("__debug__" : Str))=false:=by decide)
  (jz:(x == ("__classdict__" : Str))=false:=by decide):JS X (.Return (some (.Name x p)) pos) (jO i):=PS.to (Eb (lA hN hv hd jz)) λ_ _ _ q=>Ez q
theorem aG (hN:X.N.Nodup)(he:JE X e f)(hi:X.N[i]? = some x:=by rfl)(hx:GY X.env.scope x:=by first|exact Or.inl rfl|exact Or.inr rfl)(hs:swapsWith e (some (.Name x p)) pos.line X.env=pure false:=by rfl)
  (hf:X.fn x=true∨X.env.scope.names.lookup x=some .local:=by first|exact .inl rfl|exact .inr rfl):JS X (.Assign [.Name x p] e pos) (aQ i f):=PS.to (uu hN hi hx he hs hf) λ_ _ _ q=>AT q
theorem Ie (hN:X.N.Nodup)(he:JE X e f)(hi:X.N[i]? = some x:=by rfl)(hx:GY X.env.scope x:=by first|exact Or.inl rfl|exact Or.inr rfl)(hs:swapsWith e (some (.Name x p)) pos.line X.env=pure false:=by rfl)
  (hf:X.fn x=true∨X.env.scope.names.lookup x=some .local:=by first|exact .inl rfl|exact .inr rfl):JS X (.Assign [.Name x p] e pos) (xi i f):=PS.to (uu hN hi hx he hs hf) λ_ _ _ q=>E1 q
theorem Mk (hp:PassesOwn (model X.prog X.w) X.A X.env X.xe)(hc:X.calm=true)(hi:JI X tg df fi)(hg:PG X tg t)(ht:HV X.K rW t)(hb:wI X body g)
  (hs:∀x,foldedSetIterable df X.env x=pure x:=by intro _;rfl):JS X (.For tg df body [] pos) (oS fi rW g):=PS.to (Ee hp hc hi hg hb hs) λ_ _ _ q=>HW ht q
theorem Ig (hp:PassesOwn (model X.prog X.w) X.A X.env X.xe)(hc:X.calm=true)(hi:PI X tg df (Rr X.K fi))(hg:PG X tg t)(ht:HV X.K rW t)(hb:wI X body g)
  (hs:∀x,foldedSetIterable df X.env x=pure x:=by intro _;rfl):JS X (.For tg df body [] pos) (lm fi rW g):=PS.to (Ee hp hc hi hg hb hs) λ_ _ _ q=>E4 ht q
theorem fX (he:JE X e f)(hN:X.N[i]? = some x:=by rfl)(hv:DY X.env.scope x:=by first|exact Or.inl rfl|exact Or.inr (Or.inl rfl)|exact Or.inr (Or.inr rfl))(hd:(x == ("__debug__" : Str))=false:=by decide)
  (jz:(x == ("__classdict__" : Str))=false:=by decide)
  (iC:attributeBase (.Name x p) "append" X.env (eval (.Name x p) X.env)=eval (.Name x p) X.env:=by rfl)
  (AF:((backTo cG (starEach [e] X.env)).all (λx=>!x.1) && (backToKw cG (keywordEach [] X.env)).all (λx=>x.1.isSome)
   && decide ([e].length+([]:List Keyword).length+(if([]:List Keyword).isEmpty then 0 else 1)<30))=true:=by rfl)
  (iD:(dC.endLine == cG.line)=true:=by rfl) (hs:starEach [e] X.env=[(false,eval e X.env)]:=by rfl) (Qx:swapsWith (.Call (.Attribute (.Name x p) "append" dC) [e] [] cG) none pos.line X.env=pure false:=by rfl):
  JS X (.Expr (.Call (.Attribute (.Name x p) "append" dC) [e] [] cG) pos) (jh i f):=by
 refine PS.to (Hv (En PySem.F.plainAttrs_list PySem.F.slot_list_append PySem.F.type_list_append sM (lA hN hv hd jz) (iI he jX hs) iC AF iD hs rfl) Qx) λE σ H q=>?_;obtain⟨a,us,h1,h2,k⟩:=HU q;exact⟨_,h1,.inl ⟨rfl,us,iF.of h2⟩,k⟩
end
@[simp] noncomputable def aN (g:FS)(n k:Nat):List D->Option (D×Bool):=λds=>if ds.length=n then
 match g (ds.map (λd=>some (d,false))++List.replicate k none) with
 |some (.rt d b)=>some (d,b)
 |some (.nx _)=>some (.non,false)
 |_=>none
 else none
def Ih (K:PySem.W.Frag)(f:List D->Option (D×Bool)):Sp:=λvs H Q _=>∃(B:Hp)(ds:List D)(d:D)(b:Bool),(aU B H/\Tb K B)/\IsL K B vs ds/\f ds=some (d,b)/\Fin K B H d b Q
theorem xm {K:PySem.W.Frag}{B H:Hp}{vs:List V}{ds:List D}{N:List Str}(sB:aU B H)(tb:Tb K B)(i:IsL K B vs ds):eB K B H B H (L2.jN N vs) (ds.map (λd=>some (d,false))++List.replicate (N.length - vs.length) none):=by
 have nf:∀(j:Nat)(d:D)(b:Bool),(ds.map (λd=>some (d,false))++List.replicate (N.length - vs.length) none:Env)[j]? = some (some (d,b))->b=false/\ds[j]? = some d:=λj d b e=>by
  by_cases hj:j<ds.length
  ·rw[List.getElem?_append_left (by simpa using hj),vA]at e;obtain⟨d',h1,h2⟩:=oY e;cases h2
   exact⟨rfl,h1⟩
  ·rw[List.getElem?_append_right (by simpa using Nat.not_lt.mp hj),List.getElem?_replicate]at e;split at e<;>cases e
 have no:∀a,¬own (L2.jN N vs) (ds.map (λd=>some (d,false))++List.replicate (N.length - vs.length) none) a:=λa ⟨j,d,h,_⟩=>by
  obtain⟨z,_⟩:=nf j d true h;cases z
 refine⟨sB,tb,.refl sB,?_,λj d e=>?_,λj d e=>?_,λj k a d e h=>?_⟩
 ·unfold L2.jN;rw[uZ,uZ,vI,vI,List.length_replicate,List.length_replicate,i.length]
 ·obtain⟨_,e1⟩:=nf j d false e;obtain⟨v,h1,h2⟩:=i.get e1;refine⟨v,?_,h2.mono λa o e=>by rw[cO (no a)];exact e⟩;unfold L2.jN;have hj:j<vs.length:=(vV h1).1;rw[List.getElem?_append_left (by simpa using hj),vA,h1]<;>rfl
 ·obtain⟨z,_⟩:=nf j d true e;cases z
 ·obtain⟨z,_⟩:=nf j d true h;cases z
section
variable {P:Program}{w:World}{K:PySem.W.Frag}{mg:Str->Option Value}{base:Heap}
theorem Px {x qual:Str}{st:Stmt}{f:Addr}{fd:FuncData}{N ps:List Str}{k:Nat}{g:FS}(F:Nn K x qual st f fd)(S:FnScope N ps (aP st))
  (hb:∀(eK:Value)(A:Around)(outer:List PySem.Env)(s:Shared)(H:Hp)(E:XK),eV k (A.deeper (envOfC qual (aP st) s.heap.objs.size f eK))->wI (oQ zw P w K mg base N qual (aP st) f eK A outer s H E).nox (cK st) g):
  sw P w K mg base zw (k+1) f fd ps (Ih K (aN g ps.length (N.length - ps.length))):=by
 have len:∀vs H Q E,Ih K (aN g ps.length (N.length - ps.length)) vs H Q E->vs.length=ps.length:=λvs H Q E h=>by
  obtain⟨B,ds,d,b,sB,i,e,q⟩:=h;unfold aN at e;split at e
  ·rename_i hl;rw[i.length];exact hl
  ·cases e
 refine F.ok S len λeK A outer s H vs Q E hr h=>⟨_,hb eK A outer s H E hr,?_⟩;have bL:=len vs H Q E h;obtain⟨B,ds,d,b,sB,i,e,q⟩:=h;unfold aN at e;rw[if_pos (by rw[←i.length];exact bL)]at e;have s0:=xm (N:=N) sB.1 sB.2 i;rw[bL]at s0;split at e
 ·rename_i d' b' eg;cases e
  exact⟨B,H,_,_,⟨B,s0⟩,eg,λv H' N' x' i' f'=>q v H' N' x' i' f'⟩
 ·rename_i ρ' eg;cases e
  exact⟨B,H,_,_,⟨B,s0⟩,eg,λσ' H' ⟨N',s'⟩=>q .non H' N' s'.ext .non (by simp)⟩
 ·cases e
structure Fn (P:Program)(w:World)(K:PySem.W.Frag)(mg:Str->Option Value)(base:Heap)(k:Nat)(x:Str)(f:List D->Option (D×Bool)):Prop where
 ex:∃(ad:Addr)(fd:FuncData)(ps:List Str),sw P w K mg base zw k ad fd ps (Ih K f)/\mg x=some (.ref ad)/\PySem.W.keepIn K (.ref ad)=true/\sD K fd ps []
end
theorem AV (F:Fn X.prog X.w X.K X.mg X.base k x f)(hr:eV k X.A)(ha:JA X (e::es) fa)(hg:Gl X x:=by rfl)
  (rQ:(x == ("__debug__" : Str))=false:=by decide) (he:starEach (e::es) X.env=(false,eval e X.env)::starEach es X.env:=by rfl) (lz:(backTo pos (starEach es X.env)).any (·.1)=false:=by rfl):
  JE X (.Call (.Name x p) (e::es) [] pos) (fA f fa):=by
 obtain⟨ad,fd,ps,F1,hm,hk,hb⟩:=F.ex;refine PE.to (HC F1 hr hg hm hk hb .nil Ph ha rQ he lz) λσ H Q q=>?_;obtain⟨B,ρ,d,b,s,r,e,q⟩:=q;obtain⟨ds,ex,e⟩:=oX e;exact⟨B,ρ,ds,s,r,ex,λvs H1 N1 x1 i1=>by
  show Ih X.K f (vs++[]) H1 Q _;rw[uQ];exact⟨N1,ds,d,b,⟨x1.nh,r.tb.mono x1.bn⟩,i1,e,q.into x1⟩⟩
mutual
def bE:D->D->Bool
 |.non,.non=>true
 |.bl a,.bl b=>a == b
 |.bl a,.int b=>decide ((if a then 1 else 0)=b)
 |.int a,.bl b=>decide (a=(if b then 1 else 0))
 |.int a,.int b=>decide (a=b)
 |.str a,.str b=>decide (a=b)
 |.tup xs,.tup ys=>dn xs ys
 |.lst xs,.lst ys=>dn xs ys
 |_,_=>false
def dn:List D->List D->Bool
 |[],[]=>true
 |x::xs,y::ys=>bE x y && dn xs ys
 |_,_=>false
end
@[simp] theorem xn:bE .non .non=true:=by simp only[bE]
@[simp] theorem zS (b:Bool):bE .non (.bl b)=false:=by simp only[bE]
@[simp] theorem xo (b:Int):bE .non (.int b)=false:=by simp only[bE]
@[simp] theorem xp (b:Str):bE .non (.str b)=false:=by simp only[bE]
@[simp] theorem Kj (b:List D):bE .non (.tup b)=false:=by simp only[bE]
@[simp] theorem Kk (b:List D):bE .non (.lst b)=false:=by simp only[bE]
@[simp] theorem zT (a:Bool):bE (.bl a) .non=false:=by simp only[bE]
@[simp] theorem CJ (a:Bool)(b:Bool):bE (.bl a) (.bl b)=(a == b):=by simp only[bE]
@[simp] theorem zU (a:Bool)(b:Int):bE (.bl a) (.int b)=decide ((if a then 1 else 0)=b):=by simp only[bE]
@[simp] theorem zV (a:Bool)(b:Str):bE (.bl a) (.str b)=false:=by simp only[bE]
@[simp] theorem Ml (a:Bool)(b:List D):bE (.bl a) (.tup b)=false:=by simp only[bE]
@[simp] theorem Mm (a:Bool)(b:List D):bE (.bl a) (.lst b)=false:=by simp only[bE]
@[simp] theorem xq (a:Int):bE (.int a) .non=false:=by simp only[bE]
@[simp] theorem zW (a:Int)(b:Bool):bE (.int a) (.bl b)=decide (a=(if b then 1 else 0)):=by simp only[bE]
@[simp] theorem xu (a:Int)(b:Int):bE (.int a) (.int b)=decide (a=b):=by simp only[bE]
@[simp] theorem xw (a:Int)(b:Str):bE (.int a) (.str b)=false:=by simp only[bE]
@[simp] theorem Kl (a:Int)(b:List D):bE (.int a) (.tup b)=false:=by simp only[bE]
@[simp] theorem Km (a:Int)(b:List D):bE (.int a) (.lst b)=false:=by simp only[bE]
@[simp] theorem xy (a:Str):bE (.str a) .non=false:=by simp only[bE]
@[simp] theorem zX (a:Str)(b:Bool):bE (.str a) (.bl b)=false:=by simp only[bE]
@[simp] theorem xz (a:Str)(b:Int):bE (.str a) (.int b)=false:=by simp only[bE]
@[simp] theorem om (a:Str)(b:Str):bE (.str a) (.str b)=decide (a=b):=by simp only[bE]
@[simp] theorem Kn (a:Str)(b:List D):bE (.str a) (.tup b)=false:=by simp only[bE]
@[simp] theorem Ko (a:Str)(b:List D):bE (.str a) (.lst b)=false:=by simp only[bE]
@[simp] theorem Kp (a:List D):bE (.tup a) .non=false:=by simp only[bE]
@[simp] theorem Mn (a:List D)(b:Bool):bE (.tup a) (.bl b)=false:=by simp only[bE]
@[simp] theorem Kq (a:List D)(b:Int):bE (.tup a) (.int b)=false:=by simp only[bE]
@[simp] theorem Kr (a:List D)(b:Str):bE (.tup a) (.str b)=false:=by simp only[bE]
@[simp] theorem Ks (a:List D)(b:List D):bE (.tup a) (.tup b)=dn a b:=by simp only[bE]
@[simp] theorem Kt (a:List D)(b:List D):bE (.tup a) (.lst b)=false:=by simp only[bE]
@[simp] theorem Ku (a:List D):bE (.lst a) .non=false:=by simp only[bE]
@[simp] theorem Mo (a:List D)(b:Bool):bE (.lst a) (.bl b)=false:=by simp only[bE]
@[simp] theorem Kv (a:List D)(b:Int):bE (.lst a) (.int b)=false:=by simp only[bE]
@[simp] theorem Kw (a:List D)(b:Str):bE (.lst a) (.str b)=false:=by simp only[bE]
@[simp] theorem Kx (a:List D)(b:List D):bE (.lst a) (.tup b)=false:=by simp only[bE]
@[simp] theorem Ky (a:List D)(b:List D):bE (.lst a) (.lst b)=dn a b:=by simp only[bE]
@[simp] theorem Py:dn [] []=true:=by rw[dn]
@[simp] theorem NU (x y:D)(xs ys:List D):dn (x::xs) (y::ys)=(bE x y && dn xs ys):=by rw[dn]
@[simp] theorem Rt (y:D)(ys:List D):dn [] (y::ys)=false:=by simp only[dn]
@[simp] theorem Ru (x:D)(xs:List D):dn (x::xs) []=false:=by simp only[dn]
noncomputable def aq:Nat->D->Bool
 |_,.non=>true
 |_,.bl _=>true
 |_,.int _=>true
 |_,.str _=>true
 |_,.ty _=>false
 |_,.dk _ _=>false
 |_,.dt _ _=>false
 |0,.tup _=>false
 |0,.lst _=>false
 |n+1,.tup ds=>ds.all (aq n)
 |n+1,.lst ds=>ds.all (aq n)
@[simp] theorem Mp (n:Nat):aq n .non=true:=by cases n<;>simp only[aq]
@[simp] theorem NV (n:Nat)(a:Bool):aq n (.bl a)=true:=by cases n<;>simp only[aq]
@[simp] theorem Mq (n:Nat)(a:Int):aq n (.int a)=true:=by cases n<;>simp only[aq]
@[simp] theorem Mr (n:Nat)(a:Str):aq n (.str a)=true:=by cases n<;>simp only[aq]
@[simp] theorem NW (n:Nat)(ks:List c8)(vs:List D):aq n (.dk ks vs)=false:=by cases n<;>simp only[aq]
@[simp] theorem NX (n:Nat)(ks:List (List c8))(vs:List D):aq n (.dt ks vs)=false:=by cases n<;>simp only[aq]
@[simp] theorem Ms (n:Nat)(ds:List D):aq (n+1) (.tup ds)=ds.all (aq n):=by simp only[aq]
@[simp] theorem Mt (n:Nat)(ds:List D):aq (n+1) (.lst ds)=ds.all (aq n):=by simp only[aq]
theorem x0:∀ {xs ys:List D},dn xs ys=true->xs.length=ys.length
 |[],[],_=>rfl
 |x::xs,y::ys,h=>by
  simp only[dn,vC]at h;rw[vE,vE,x0 h.2]
 |[],_::_,h=>by simp[dn]at h
 |_::_,[],h=>by simp[dn]at h
theorem uI (h:xs.length≠ys.length):dn xs ys=false:=by
 cases e:dn xs ys with
 |false=>rfl
 |true=>exact absurd (x0 e) h
theorem j6 (f:Nat->Bool):∀ {xs ys:List D},xs.length=ys.length->(∀(j:Nat) x y,xs[j]? = some x->ys[j]? = some y->f j=bE x y)->(List.range xs.length).all f=dn xs ys
 |[],[],_,_=>by simp[dn]
 |x::xs,y::ys,hl,h=>by
  have e:=j6 (λj=>f (j+1)) (xs:=xs) (ys:=ys) (by simpa using hl) λj a b h1 h2=>h (j+1) a b (by simpa using h1) (by simpa using h2);rw[vE,List.range_succ_eq_map,List.all_cons,List.all_map,dn,←h 0 x y rfl rfl,←e];rfl
 |[],_::_,hl,_=>by simp at hl
 |_::_,[],hl,_=>by simp at hl
section
variable {X:Cx}{ae:List (Addr×Obj)}{σ:St}{H:Hp}{s:Shared}
theorem AW (I:Inv X ae σ H s)(h1:jf X.K H a vs)(h2:iF X.K H a ws):False:=by
 obtain⟨its,_,⟨o,e,c,_⟩,_⟩:=I.tuple h1;obtain⟨its',_,⟨o',n',e',c',_⟩,_⟩:=I.list h2;rw[e]at e';cases e';rw[c]at c';injection c' with z;exact absurd z (by decide)
theorem AX (I:Inv X ae σ H s)(e:s.heap.get? a=some o)(d:o.data=.seq its n):(∀aL ob,H a≠some (.dK aL ob))/\∀aL,H a≠some (.dT aL):=by
 refine⟨λaL ob h=>?_,λaL h=>?_⟩
 ·obtain⟨_,_,_,_,_,o',es,ep,e',_,d',_⟩:=(show bO X.prog X.w H s.heap a (.dK aL ob)from I.hok a _ h);rw[e]at e';cases e';rw[d]at d';cases d'
 ·obtain⟨_,_,_,_,o',es,ep,e',_,d',_⟩:=(show bO X.prog X.w H s.heap a (.dT aL)from I.hok a _ h);rw[e]at e';cases e';rw[d]at d';cases d'
theorem xA (I:Inv X ae σ H s)(h1:jf X.K H a vs):(∀aL ob,H a≠some (.dK aL ob))/\∀aL,H a≠some (.dT aL):=by
 obtain⟨its,_,⟨o,e,c,n,d⟩,_⟩:=I.tuple h1;exact AX I e d
theorem xB (I:Inv X ae σ H s)(h1:iF X.K H a vs):(∀aL ob,H a≠some (.dK aL ob))/\∀aL,H a≠some (.dT aL):=by
 obtain⟨its,_,p,_⟩:=I.list h1;obtain⟨o,e,c,n,d⟩:=p.isList;exact AX I e d
theorem AY (I:Inv X ae σ H s):∀(n:Nat){v:V}{d d':D},Is X.K H v d->Is X.K H v d'->aq n d=true->bE d d'=true:=by
 have lists:∀ {p:D->Bool}(ih:∀ {v:V}{d d':D},Is X.K H v d->Is X.K H v d'->p d=true->bE d d'=true) {vs:List V}{ds JB:List D},IsL X.K H vs ds->IsL X.K H vs JB->ds.all p=true->dn ds JB=true:=by
  intro p ih vs;induction vs with
  |nil=>intro ds JB h h' _;cases h;cases h';simp[dn]
  |cons v vs Xs=>
   intro ds JB h h' hp;cases h with
   |cons h1 h2=>
    cases h' with
    |cons h3 h4=>
     rw[List.all_cons,vC]at hp;rw[dn,ih h1 h3 hp.1,Xs h2 h4 hp.2];rfl
 intro n;induction n with
 |zero=>
  intro v d d' h h' hp;cases h<;>cases h'<;>first|(simp[aq]at hp;done)|simp[bE]
 |succ n ih=>
  intro v d d' h h' hp;cases h with
  |tup h1 h2=>
   cases h' with
   |tup h3 h4=>
    rw[I.tuple_inj h3 h1]at h4;rw[bE];exact lists ih h2 h4 (by simpa [aq]using hp)
   |lst h3 h4=>exact(AW I h1 h3).elim
   |dk h3 _ _=>exact((xA I h1).1 _ _ h3).elim
   |dt h3 _ _=>exact((xA I h1).2 _ h3).elim
  |lst h1 h2=>
   cases h' with
   |lst h3 h4=>
    rw[I.list_inj h3 h1]at h4;rw[bE];exact lists ih h2 h4 (by simpa [aq]using hp)
   |tup h3 h4=>exact(AW I h3 h1).elim
   |dk h3 _ _=>exact((xB I h1).1 _ _ h3).elim
   |dt h3 _ _=>exact((xB I h1).2 _ h3).elim
  |ty=>simp[aq]at hp
  |dk=>simp[aq]at hp
  |dt=>simp[aq]at hp
  |_=>cases h'<;>simp[bE]
theorem Kz {α:Type}{p:α->Bool}{l:List α}{j:Nat}{x:α}(h:l.all p=true)(e:l[j]? = some x):p x=true:=uR h x (vL e)
theorem xC {A:Around}{p:D->Bool}(ih:∀ {v1 v2:V}{d1 d2:D}{u1 u2:Value},p d1=true->p d2=true->Is X.K H v1 d1->Is X.K H v2 d2->ba v1 u1->ba v2 u2->SeqAt.EqAt A s u1 u2 (bE d1 d2))
  {vs ws:List V}{ds es:List D}{its gp:List Value}(i1:IsL X.K H vs ds) (i2:IsL X.K H ws es) (r1:aW vs its) (r2:aW ws gp) (p1:ds.all p=true) (p2:es.all p=true):
  ∀j (h1:j<its.toArray.size) (h2:j<gp.toArray.size),SeqAt.EqAt A s its.toArray[j] gp.toArray[j] (bE (ds.getD j .non) (es.getD j .non)):=by
 intro j h1 h2;rw[vH]at h1 h2;have l1:=r1.length;have l2:=r2.length;have l3:=i1.length;have l4:=i2.length;have hv:j<vs.length:=by omega
 have hw:j<ws.length:=by omega
 have hd:j<ds.length:=by omega
 have he:j<es.length:=by omega
 obtain⟨u,e1,q1⟩:=r1.get (i:=j) (x:=vs[j]) (by simp[hv]);obtain⟨u',e2,q2⟩:=r2.get (i:=j) (x:=ws[j]) (by simp[hw]);obtain⟨v,e3,q3⟩:=i1.get (i:=j) (d:=ds[j]) (by simp[hd]);obtain⟨w,e4,q4⟩:=i2.get (i:=j) (d:=es[j]) (by simp[he]);have a1:its.toArray[j]=u:=by have z:=(vV e1).2;simpa using z
 have a2:gp.toArray[j]=u':=by have z:=(vV e2).2;simpa using z
 have a3:vs[j]=v:=by simpa [hv]using e3
 have a4:ws[j]=w:=by simpa [hw]using e4
 have a5:ds.getD j .non=ds[j]:=by simp[List.getD,hd]
 have a6:es.getD j .non=es[j]:=by simp[List.getD,he]
 rw[a1,a2,a5,a6];exact ih (Kz p1 (j:=j) (by simp[hd])) (Kz p2 (j:=j) (by simp[he])) (a3 ▸ q3) (a4 ▸ q4) q1 q2
theorem uJ {xs ys:List D}(j:Nat)(x y:D)(h1:xs[j]? = some x)(h2:ys[j]? = some y):bE (xs.getD j .non) (ys.getD j .non)=bE x y:=by
 simp[List.getD,h1,h2]
abbrev UK (A:Around)(s:Shared)(u1 u2:Value)(b:Bool):Prop:=SeqAt.RcAt A s u1 u2 b/\SeqAt.EqAt A s u1 u2 b/\SeqAt.RcNeAt A s u1 u2 (!b)
theorem cf (p1:aq 0 d1=true)(p2:aq 0 d2=true)(i1:Is X.K H v1 d1)(i2:Is X.K H v2 d2)(r1:ba v1 u1)(r2:ba v2 u2):UK A s u1 u2 (bE d1 d2):=by
 cases i1 with
 |non=>
  cases r1
  cases i2 with
  |non=>
   cases r2
   rw[xn];exact⟨SeqAt.RcAt.none_none,SeqAt.EqAt.same _,SeqAt.RcNeAt.none_none⟩
  |bl b=>
   cases r2
   rw[zS];exact⟨SeqAt.RcAt.none_bool _,SeqAt.EqAt.none_bool _,SeqAt.RcNeAt.none_bool _⟩
  |int b=>
   obtain⟨t',rfl⟩:=r2;rw[xo];exact⟨SeqAt.RcAt.none_int _ _,SeqAt.EqAt.none_int _ _,SeqAt.RcNeAt.none_int _ _⟩
  |str b=>
   obtain⟨t',rfl⟩:=r2;rw[xp];exact⟨SeqAt.RcAt.none_str _ _,SeqAt.EqAt.none_str _ _,SeqAt.RcNeAt.none_str _ _⟩
  |ty=>simp[aq]at p2
  |dk=>simp[aq]at p2
  |dt=>simp[aq]at p2
  |tup=>simp[aq]at p2
  |lst=>simp[aq]at p2
 |bl a=>
  cases r1
  cases i2 with
  |non=>
   cases r2
   rw[zT];exact⟨SeqAt.RcAt.bool_none _,SeqAt.EqAt.bool_none _,SeqAt.RcNeAt.bool_none _⟩
  |bl b=>
   cases r2
   rw[CJ];exact⟨SeqAt.RcAt.bool_bool _ _,SeqAt.EqAt.bool_bool _ _,SeqAt.RcNeAt.bool_bool _ _⟩
  |int b=>
   obtain⟨t',rfl⟩:=r2;rw[zU,←Bool.beq_eq_decide_eq];exact⟨SeqAt.RcAt.bool_int _ _ _,SeqAt.EqAt.bool_int _ _ _,SeqAt.RcNeAt.bool_int _ _ _⟩
  |str b=>
   obtain⟨t',rfl⟩:=r2;rw[zV];exact⟨SeqAt.RcAt.bool_str _ _ _,SeqAt.EqAt.bool_str _ _ _,SeqAt.RcNeAt.bool_str _ _ _⟩
  |ty=>simp[aq]at p2
  |dk=>simp[aq]at p2
  |dt=>simp[aq]at p2
  |tup=>simp[aq]at p2
  |lst=>simp[aq]at p2
 |int a=>
  obtain⟨t,rfl⟩:=r1;cases i2 with
  |non=>
   cases r2
   rw[xq];exact⟨SeqAt.RcAt.int_none _ _,SeqAt.EqAt.int_none _ _,SeqAt.RcNeAt.int_none _ _⟩
  |bl b=>
   cases r2
   rw[zW,←Bool.beq_eq_decide_eq];exact⟨SeqAt.RcAt.int_bool _ _ _,SeqAt.EqAt.int_bool _ _ _,SeqAt.RcNeAt.int_bool _ _ _⟩
  |int b=>
   obtain⟨t',rfl⟩:=r2;rw[xu,←Bool.beq_eq_decide_eq];exact⟨SeqAt.RcAt.int_int _ _ _ _,SeqAt.EqAt.int_int _ _ _ _,SeqAt.RcNeAt.int_int _ _ _ _⟩
  |str b=>
   obtain⟨t',rfl⟩:=r2;rw[xw];exact⟨SeqAt.RcAt.int_str _ _ _ _,SeqAt.EqAt.int_str _ _ _ _,SeqAt.RcNeAt.int_str _ _ _ _⟩
  |ty=>simp[aq]at p2
  |dk=>simp[aq]at p2
  |dt=>simp[aq]at p2
  |tup=>simp[aq]at p2
  |lst=>simp[aq]at p2
 |str a=>
  obtain⟨t,rfl⟩:=r1;cases i2 with
  |non=>
   cases r2
   rw[xy];exact⟨SeqAt.RcAt.str_none _ _,SeqAt.EqAt.str_none _ _,SeqAt.RcNeAt.str_none _ _⟩
  |bl b=>
   cases r2
   rw[zX];exact⟨SeqAt.RcAt.str_bool _ _ _,SeqAt.EqAt.str_bool _ _ _,SeqAt.RcNeAt.str_bool _ _ _⟩
  |int b=>
   obtain⟨t',rfl⟩:=r2;rw[xz];exact⟨SeqAt.RcAt.str_int _ _ _ _,SeqAt.EqAt.str_int _ _ _ _,SeqAt.RcNeAt.str_int _ _ _ _⟩
  |str b=>
   obtain⟨t',rfl⟩:=r2;rw[om,←Bool.beq_eq_decide_eq];exact⟨SeqAt.RcAt.str_str _ _ _ _,SeqAt.EqAt.str_str _ _ _ _,SeqAt.RcNeAt.str_str _ _ _ _⟩
  |ty=>simp[aq]at p2
  |dk=>simp[aq]at p2
  |dt=>simp[aq]at p2
  |tup=>simp[aq]at p2
  |lst=>simp[aq]at p2
 |ty=>simp[aq]at p1
 |dk=>simp[aq]at p1
 |dt=>simp[aq]at p1
 |tup=>simp[aq]at p1
 |lst=>simp[aq]at p1
theorem K0 (I:Inv X ae σ H s):∀(n:Nat){A:Around}{v1 v2:V}{d1 d2:D}{u1 u2:Value},A.units+n<cLine->aq n d1=true->aq n d2=true->Is X.K H v1 d1->Is X.K H v2 d2->ba v1 u1->ba v2 u2->UK A s u1 u2 (bE d1 d2):=by
 intro n;induction n with
 |zero=>exact λ_ p1 p2 i1 i2 r1 r2=>cf p1 p2 i1 i2 r1 r2
 |succ n ih=>
  intro A v1 v2 d1 d2 u1 u2 hu p1 p2 i1 i2 r1 r2;have fF:A.units<cLine:=by omega
  have Qr:∀ {v1 v2:V}{d1 d2:D}{u1 u2:Value},aq n d1=true->aq n d2=true->Is X.K H v1 d1->Is X.K H v2 d2->ba v1 u1->ba v2 u2->SeqAt.EqAt A.in1 s u1 u2 (bE d1 d2):=λp1 p2 i1 i2 r1 r2=>(ih (A:=A.in1) (by show A.units+1+n<cLine;omega) p1 p2 i1 i2 r1 r2).2.1;cases i1 with
  |tup h1 k1=>
   cases r1
   obtain⟨its,No,t1,z1⟩:=I.tuple h1;have jU:s.heap.IsTuple _ its.toArray:=t1;have q1:=p1;simp only[aq]at q1;cases i2 with
   |tup h2 k2=>
    cases r2
    obtain⟨gp,wF,t2,z2⟩:=I.tuple h2;have oh:s.heap.IsTuple _ gp.toArray:=t2;have q2:=p2;simp only[aq]at q2;rename_i a1 vs ds a2 ws es;have he:=xC (A:=A.in1) (p:=aq n) Qr k1 k2 No wF q1 q2;have Qy:((List.range (min its.toArray.size gp.toArray.size)).all (λj=>bE (ds.getD j .non) (es.getD j .non)) && its.toArray.size == gp.toArray.size)=bE (.tup ds) (.tup es):=by
     rw[bE,vH,vH,←No.length,←wF.length,k1.length,k2.length];by_cases hl:ds.length=es.length
     ·rw[←hl,Nat.min_self,beq_self_eq_true,Bool.and_true];exact j6 _ hl λj x y e1 e2=>uJ j x y e1 e2
     ·rw[uI hl,beq_eq_false_iff_ne.mpr hl,Bool.and_false]
    have rc:=SeqAt.RcAt.tuples jU oh fF he;have rn:=SeqAt.RcNeAt.tuples jU oh fF he;rw[Qy]at rc rn;refine⟨rc,?_,rn⟩;by_cases ha:a1=a2
    ·subst ha;rw[AY I (n+1) (.tup h1 k1) (.tup h2 k2) p1];exact SeqAt.EqAt.same _
    ·exact SeqAt.EqAt.of_refs ha rc
   |lst h2 k2=>
    cases r2
    obtain⟨gp,wF,t2,z2⟩:=I.list h2;rw[show bE (.tup _) (.lst _)=false by simp only[bE]];exact⟨SeqAt.RcAt.tuple_list jU t2.isList fF,SeqAt.EqAt.tuple_list jU t2.isList fF,SeqAt.RcNeAt.tuple_list jU t2.isList fF⟩
   |ty=>simp[aq]at p2
   |dk=>simp[aq]at p2
   |dt=>simp[aq]at p2
   |non=>cases r2;simp only[bE];exact⟨SeqAt.RcAt.tuple_none jU fF,SeqAt.EqAt.tuple_none jU fF,SeqAt.RcNeAt.tuple_none jU fF⟩
   |bl=>cases r2;simp only[bE];exact⟨SeqAt.RcAt.tuple_bool _ jU fF,SeqAt.EqAt.tuple_bool _ jU fF,SeqAt.RcNeAt.tuple_bool _ jU fF⟩
   |int=>obtain⟨t,rfl⟩:=r2;simp only[bE];exact⟨SeqAt.RcAt.tuple_int _ _ jU fF,SeqAt.EqAt.tuple_int _ _ jU fF,SeqAt.RcNeAt.tuple_int _ _ jU fF⟩
   |str=>obtain⟨t,rfl⟩:=r2;simp only[bE];exact⟨SeqAt.RcAt.tuple_str _ _ jU fF,SeqAt.EqAt.tuple_str _ _ jU fF,SeqAt.RcNeAt.tuple_str _ _ jU fF⟩
  |lst h1 k1=>
   cases r1
   obtain⟨its,No,t1,z1⟩:=I.list h1;have jU:s.heap.IsList _ its.toArray:=t1.isList;have q1:=p1;simp only[aq]at q1;cases i2 with
   |lst h2 k2=>
    cases r2
    obtain⟨gp,wF,t2,z2⟩:=I.list h2;have oh:s.heap.IsList _ gp.toArray:=t2.isList;have q2:=p2;simp only[aq]at q2;rename_i a1 vs ds a2 ws es;have he:=xC (A:=A.in1) (p:=aq n) Qr k1 k2 No wF q1 q2;have Np:SeqAt.RcAt A s (.ref a1) (.ref a2) (bE (.lst ds) (.lst es))/\SeqAt.RcNeAt A s (.ref a1) (.ref a2) (!bE (.lst ds) (.lst es)):=by
     by_cases hl:ds.length=es.length
     ·have hs:its.toArray.size=gp.toArray.size:=by rw[vH,vH,←No.length,←wF.length,k1.length,k2.length];exact hl
      have Qy:(List.range its.toArray.size).all (λj=>bE (ds.getD j .non) (es.getD j .non))=bE (.lst ds) (.lst es):=by
       rw[bE,vH,←No.length,k1.length];exact j6 _ hl λj x y e1 e2=>uJ j x y e1 e2
      have rc:=SeqAt.RcAt.lists jU oh hs fF he;have rn:=SeqAt.RcNeAt.lists jU oh hs fF he;rw[Qy]at rc rn;exact⟨rc,rn⟩
     ·have hs:(its.toArray.size != gp.toArray.size)=true:=by rw[vH,vH,←No.length,←wF.length,k1.length,k2.length];exact bne_iff_ne.mpr hl
      rw[bE,uI hl];exact⟨SeqAt.RcAt.lists_lengths jU oh hs fF,SeqAt.RcNeAt.lists_lengths jU oh hs fF⟩
    refine⟨Np.1,?_,Np.2⟩;by_cases ha:a1=a2
    ·subst ha;rw[AY I (n+1) (.lst h1 k1) (.lst h2 k2) p1];exact SeqAt.EqAt.same _
    ·exact SeqAt.EqAt.of_refs ha Np.1
   |tup h2 k2=>
    cases r2
    obtain⟨gp,wF,t2,z2⟩:=I.tuple h2;have oh:s.heap.IsTuple _ gp.toArray:=t2;rw[show bE (.lst _) (.tup _)=false by simp only[bE]];exact⟨SeqAt.RcAt.list_tuple jU oh fF,SeqAt.EqAt.list_tuple jU oh fF,SeqAt.RcNeAt.list_tuple jU oh fF⟩
   |ty=>simp[aq]at p2
   |dk=>simp[aq]at p2
   |dt=>simp[aq]at p2
   |non=>cases r2;simp only[bE];exact⟨SeqAt.RcAt.list_none jU fF,SeqAt.EqAt.list_none jU fF,SeqAt.RcNeAt.list_none jU fF⟩
   |bl=>cases r2;simp only[bE];exact⟨SeqAt.RcAt.list_bool _ jU fF,SeqAt.EqAt.list_bool _ jU fF,SeqAt.RcNeAt.list_bool _ jU fF⟩
   |int=>obtain⟨t,rfl⟩:=r2;simp only[bE];exact⟨SeqAt.RcAt.list_int _ _ jU fF,SeqAt.EqAt.list_int _ _ jU fF,SeqAt.RcNeAt.list_int _ _ jU fF⟩
   |str=>obtain⟨t,rfl⟩:=r2;simp only[bE];exact⟨SeqAt.RcAt.list_str _ _ jU fF,SeqAt.EqAt.list_str _ _ jU fF,SeqAt.RcNeAt.list_str _ _ jU fF⟩
  |ty=>simp[aq]at p1
  |dk=>simp[aq]at p1
  |dt=>simp[aq]at p1
  |non=>
   cases i2 with
   |tup h2 k2=>cases r1;cases r2;obtain⟨gp,wF,t2,z2⟩:=I.tuple h2;have oh:s.heap.IsTuple _ gp.toArray:=t2;simp only[bE];exact⟨SeqAt.RcAt.none_tuple oh fF,SeqAt.EqAt.none_tuple oh fF,SeqAt.RcNeAt.none_tuple oh fF⟩
   |lst h2 k2=>cases r1;cases r2;obtain⟨gp,wF,t2,z2⟩:=I.list h2;simp only[bE];exact⟨SeqAt.RcAt.none_list t2.isList fF,SeqAt.EqAt.none_list t2.isList fF,SeqAt.RcNeAt.none_list t2.isList fF⟩
   |ty=>simp[aq]at p2
   |dk=>simp[aq]at p2
   |dt=>simp[aq]at p2
   |non=>exact cf (X:=X) (H:=H) (by simp[aq]) (by simp[aq]) .non .non r1 r2
   |bl x=>exact cf (X:=X) (H:=H) (by simp[aq]) (by simp[aq]) .non (.bl x) r1 r2
   |int x=>exact cf (X:=X) (H:=H) (by simp[aq]) (by simp[aq]) .non (.int x) r1 r2
   |str x=>exact cf (X:=X) (H:=H) (by simp[aq]) (by simp[aq]) .non (.str x) r1 r2
  |bl y=>
   cases i2 with
   |tup h2 k2=>cases r1;cases r2;obtain⟨gp,wF,t2,z2⟩:=I.tuple h2;have oh:s.heap.IsTuple _ gp.toArray:=t2;simp only[bE];exact⟨SeqAt.RcAt.bool_tuple _ oh fF,SeqAt.EqAt.bool_tuple _ oh fF,SeqAt.RcNeAt.bool_tuple _ oh fF⟩
   |lst h2 k2=>cases r1;cases r2;obtain⟨gp,wF,t2,z2⟩:=I.list h2;simp only[bE];exact⟨SeqAt.RcAt.bool_list _ t2.isList fF,SeqAt.EqAt.bool_list _ t2.isList fF,SeqAt.RcNeAt.bool_list _ t2.isList fF⟩
   |ty=>simp[aq]at p2
   |dk=>simp[aq]at p2
   |dt=>simp[aq]at p2
   |non=>exact cf (X:=X) (H:=H) (by simp[aq]) (by simp[aq]) (.bl y) .non r1 r2
   |bl x=>exact cf (X:=X) (H:=H) (by simp[aq]) (by simp[aq]) (.bl y) (.bl x) r1 r2
   |int x=>exact cf (X:=X) (H:=H) (by simp[aq]) (by simp[aq]) (.bl y) (.int x) r1 r2
   |str x=>exact cf (X:=X) (H:=H) (by simp[aq]) (by simp[aq]) (.bl y) (.str x) r1 r2
  |int y=>
   cases i2 with
   |tup h2 k2=>obtain⟨t,rfl⟩:=r1;cases r2;obtain⟨gp,wF,t2,z2⟩:=I.tuple h2;have oh:s.heap.IsTuple _ gp.toArray:=t2;simp only[bE];exact⟨SeqAt.RcAt.int_tuple _ _ oh fF,SeqAt.EqAt.int_tuple _ _ oh fF,SeqAt.RcNeAt.int_tuple _ _ oh fF⟩
   |lst h2 k2=>obtain⟨t,rfl⟩:=r1;cases r2;obtain⟨gp,wF,t2,z2⟩:=I.list h2;simp only[bE];exact⟨SeqAt.RcAt.int_list _ _ t2.isList fF,SeqAt.EqAt.int_list _ _ t2.isList fF,SeqAt.RcNeAt.int_list _ _ t2.isList fF⟩
   |ty=>simp[aq]at p2
   |dk=>simp[aq]at p2
   |dt=>simp[aq]at p2
   |non=>exact cf (X:=X) (H:=H) (by simp[aq]) (by simp[aq]) (.int y) .non r1 r2
   |bl x=>exact cf (X:=X) (H:=H) (by simp[aq]) (by simp[aq]) (.int y) (.bl x) r1 r2
   |int x=>exact cf (X:=X) (H:=H) (by simp[aq]) (by simp[aq]) (.int y) (.int x) r1 r2
   |str x=>exact cf (X:=X) (H:=H) (by simp[aq]) (by simp[aq]) (.int y) (.str x) r1 r2
  |str y=>
   cases i2 with
   |tup h2 k2=>obtain⟨t,rfl⟩:=r1;cases r2;obtain⟨gp,wF,t2,z2⟩:=I.tuple h2;have oh:s.heap.IsTuple _ gp.toArray:=t2;simp only[bE];exact⟨SeqAt.RcAt.str_tuple _ _ oh fF,SeqAt.EqAt.str_tuple _ _ oh fF,SeqAt.RcNeAt.str_tuple _ _ oh fF⟩
   |lst h2 k2=>obtain⟨t,rfl⟩:=r1;cases r2;obtain⟨gp,wF,t2,z2⟩:=I.list h2;simp only[bE];exact⟨SeqAt.RcAt.str_list _ _ t2.isList fF,SeqAt.EqAt.str_list _ _ t2.isList fF,SeqAt.RcNeAt.str_list _ _ t2.isList fF⟩
   |ty=>simp[aq]at p2
   |dk=>simp[aq]at p2
   |dt=>simp[aq]at p2
   |non=>exact cf (X:=X) (H:=H) (by simp[aq]) (by simp[aq]) (.str y) .non r1 r2
   |bl x=>exact cf (X:=X) (H:=H) (by simp[aq]) (by simp[aq]) (.str y) (.bl x) r1 r2
   |int x=>exact cf (X:=X) (H:=H) (by simp[aq]) (by simp[aq]) (.str y) (.int x) r1 r2
   |str x=>exact cf (X:=X) (H:=H) (by simp[aq]) (by simp[aq]) (.str y) (.str x) r1 r2
@[simp] def dG:D->D->Option (D×Bool):=λx y=>if aq 40 x=true/\aq 40 y=true then some (.bl (bE x y),false)else none
@[simp] def CK:D->D->Option (D×Bool):=λx y=>if aq 40 x=true/\aq 40 y=true then some (.bl (!bE x y),false)else none
theorem cP (hu:X.A.units+40<cLine):dJ X (compareOp .Eq) (rD X.K dG):=by
 intro ae s σ H x y v u Q I rx ry q;obtain⟨B,dx,dy,d,b,sB,ix,iy,e,q⟩:=q;unfold dG at e;split at e
 ·rename_i hp;cases e
  exact(K0 I 40 hu hp.1 hp.2 (ix.mono sB) (iy.mono sB) rx ry).1 _ _ _ _ ⟨.bl _,H,I,rfl,q.one sB (.bl _)⟩
 ·cases e
theorem Ii (hu:X.A.units+40<cLine):dJ X (compareOp .NotEq) (rD X.K CK):=by
 intro ae s σ H x y v u Q I rx ry q;obtain⟨B,dx,dy,d,b,sB,ix,iy,e,q⟩:=q;unfold CK at e;split at e
 ·rename_i hp;cases e
  exact(K0 I 40 hu hp.1 hp.2 (ix.mono sB) (iy.mono sB) rx ry).2.2 _ _ _ _ ⟨.bl _,H,I,rfl,q.one sB (.bl _)⟩
 ·cases e
end
section
variable {X:Cx}{a b e:Expr}{pos:Pos}
theorem AZ {K:PySem.W.Frag}{H:Hp}{vs:List V}{ds:List D}{i:Int}{d:D}(h:IsL K H vs ds)(e:oj ds i=some d):∃v,oj vs i=some v/\Is K H v d:=by
 unfold oj at e ⊢;rw[h.length];cases q:C9 ds.length i with
 |none=>rw[q]at e;cases e
 |some j=>rw[q]at e;exact h.get e
@[simp] def bM:D->D->Option (D×Bool)
 |.lst ds,.int i=>(oj ds i).map λd=>(d,false)
 |.tup ds,.int i=>(oj ds i).map λd=>(d,false)
 |.str z,.int i=>if z.length<=sizeLine then (oj z.cps.toList i).map λc=>(.str ⟨#[c]⟩,false)else none
 |_,_=>none
theorem S6:Ha X (rD X.K bM):=by
 intro value slice ae s σ H x y v u Q I rx ry q hs;obtain⟨B,dx,dy,d,b,sB,ix,iy,e,q⟩:=q;cases ix<;>cases iy<;>try (simp[bM]at e;done)
 ·simp only[bM]at e;split at e
  ·rename_i hz;obtain⟨c,e1,e2⟩:=oY e;cases e2
   exact zH value slice ae s σ H _ _ v u Q I rx ry ⟨_,_,c,rfl,rfl,hz,e1,q.one sB (.str _)⟩ hs
  ·cases e
 ·rename_i h hl i;simp only[bM]at e;obtain⟨c,e1,e2⟩:=oY e;cases e2
  obtain⟨w,h1,h2⟩:=AZ hl e1;exact zG value slice ae s σ H _ _ v u Q I rx ry ⟨_,_,_,w,rfl,rfl,bo sB h,h1,q.one sB h2⟩ hs
 ·rename_i h hl i;simp only[bM]at e;obtain⟨c,e1,e2⟩:=oY e;cases e2
  obtain⟨w,h1,h2⟩:=AZ hl e1;exact HK value slice ae s σ H _ _ v u Q I rx ry ⟨_,_,_,w,rfl,rfl,sB.seq h,h1,q.one sB h2⟩ hs
theorem aS (ha:JE X a fa)(hb:JE X b fb)(hs:ux b:=by intro _ _;rfl):JE X (.Subscript a b pos) (f2 bM fa fb):=PE.to (Kd S6 ha hb hs) λ_ _ _ h=>HN h
abbrev FO:=Env->Option (Option Int)
def Wz (K:PySem.W.Frag)(f:FO):TO:=λσ H Q=>∃(B:Hp)(ρ:Env)(o:Option Int),aU B H/\fE K B σ ρ/\f ρ=some o/\∀H',aU H H'->Q o H'
abbrev JO (X:Cx)(e:Option Expr)(f:FO):Prop:=PO X e (Wz X.K f)
@[simp] noncomputable def ED:FO:=λ_=>some none
@[simp] noncomputable def Ba (f:FE):FO:=λρ=>match f ρ with|some (.int i,_)=>some (some i)|_=>none
theorem Ij:JO X none ED:=λae s σ H Q I h=>HF ae s σ H Q I (by
 obtain⟨B,ρ,o,sB,r,e,q⟩:=h;cases e
 exact q H (.refl H))
theorem Ik (h:JE X e f):JO X (some e) (Ba f):=λae s σ H Q I q=>HG h ae s σ H Q I (by
 obtain⟨B,ρ,o,sB,r,e,q⟩:=q;unfold Ba at e;split at e
 ·rename_i i b' ef;cases e
  refine⟨B,ρ,_,_,sB,r,ef,λv H1 N1 x1 i1 _=>?_⟩;cases i1
  exact⟨i,rfl,q H1 x1.hh⟩
 ·cases e)
def sg (ds:List D)(lo hi:Option Int):List D:=(ds.drop (HT.eA ds.length 0 lo)).take (HT.eA ds.length ds.length hi - HT.eA ds.length 0 lo)
theorem uK {K:PySem.W.Frag}{H:Hp}{vs:List V}{ds:List D}{lo hi:Option Int}(h:IsL K H vs ds):IsL K H (rZ vs lo hi) (sg ds lo hi):=by
 unfold rZ sg;rw[h.length];exact(h.drop _).take _
@[simp] def W1 (fa:FE)(fl fh:FO):FE:=λρ=>(fa ρ).bind λx=>(fl ρ).bind λl=>(fh ρ).bind λh=>match x.1 with
 |.lst ds=>some (.lst (sg ds l h),true)
 |.tup ds=>if HT.eA ds.length 0 l=0/\HT.eA ds.length ds.length h=ds.length then none else some (.tup (sg ds l h),false)
 |_=>none
theorem bP.to (h:bP X f r)(k:∀xs H Q,r' xs H Q->r xs H Q):bP X f r':=λae s σ H xs us Q I rs q=>h ae s σ H xs us Q I rs (k xs H Q q)
variable {es:List Expr}{x:Str}{p:Pos}{id T:String}
theorem b8 (hc:bP X (.builtin id) (zM X.K f))(hm:X.mg x=none)(hv:bootBuiltins x=some (.builtin id))(ha:JA X (e::es) fa)(hg:Gl X x:=by rfl)(hn:x ≠ "__name__":=by decide)(rQ:(x == ("__debug__" : Str))=false:=by decide)
  (he:starEach (e::es) X.env=(false,eval e X.env)::starEach es X.env:=by rfl) (lz:(backTo pos (starEach es X.env)).any (·.1)=false:=by rfl):JE X (.Call (.Name x p) (e::es) [] pos) (fA f fa):=PE.to (wW hc hg hm hv ha hn rQ he lz) λ_ _ _ h=>HP h
theorem gW (hc:bP X (.type T) (zM X.K f))(hm:X.mg x=none)(hv:bootBuiltins x=some (.type T))(ha:JA X (e::es) fa)(hg:Gl X x:=by rfl)(hn:x ≠ "__name__":=by decide)(rQ:(x == ("__debug__" : Str))=false:=by decide)
  (he:starEach (e::es) X.env=(false,eval e X.env)::starEach es X.env:=by rfl) (lz:(backTo pos (starEach es X.env)).any (·.1)=false:=by rfl):JE X (.Call (.Name x p) (e::es) [] pos) (fA f fa):=PE.to (sK hc hg hm hv ha hn rQ he lz) λ_ _ _ h=>HP h
@[simp] noncomputable def hZ:List D->Option (D×Bool)
 |[.lst ds]=>some (.int ds.length,false)
 |[.tup ds]=>some (.int ds.length,false)
 |[.str z]=>if z.length<=sizeLine then some (.int z.length,false)else none
 |_=>none
theorem jP:bP X (.builtin "len") (zM X.K hZ):=by
 refine bP.to (bP.or u0 u5) λxs H Q q=>?_;obtain⟨B,ds,d,b,sB,i,e,q⟩:=q;cases i with
 |nil=>simp[hZ]at e
 |cons i1 i2=>
  cases i2 with
  |cons _ _=>cases i1<;>simp[hZ]at e
  |nil=>
   cases i1<;>try (simp[hZ]at e;done)
   ·simp only[hZ]at e;split at e
    ·rename_i hz;cases e
     exact .inr ⟨_,rfl,hz,q.one sB (.int _)⟩
    ·cases e
   ·rename_i h hl;simp only[hZ]at e;cases e
    refine .inl ⟨_,_,rfl,.inr (bo sB h),?_⟩;rw[hl.length];exact q.one sB (.int _)
   ·rename_i h hl;simp only[hZ]at e;cases e
    refine .inl ⟨_,_,rfl,.inl (sB.seq h),?_⟩;rw[hl.length];exact q.one sB (.int _)
theorem EE (hm:X.mg x=none)(hv:bootBuiltins x=some (.type n))(hg:Gl X x:=by rfl)(hn:x ≠ "__name__":=by decide)(hd:(x == ("__debug__" : Str))=false:=by decide):JE X (.Name x pos) (fC (.ty n)) :=
 PE.to (Hr hg hm hv (v:=.ty n) rfl hn hd) λ_ _ _ h=>CI (λ_=>.ty n) h
end
theorem CL (hr:eV k A):A.units+40<cLine:=by have:=hr.un;omega
section
variable {X:Cx}{a b e:Expr}{pos:Pos}{x:Str}{p:Pos}
theorem xD (h:∃u v,X.mg x=some u/\ba v u/\∀B,Is X.K B v d)(hg:Gl X x:=by rfl)(hd:(x == ("__debug__" : Str))=false:=by decide):JE X (.Name x pos) (fC d):=by
 obtain⟨u,v,hm,r,i⟩:=h;exact Ia hg hm r i hd
@[simp] noncomputable def Bb:D->D->Option (D×Bool)
 |.int i,.int j=>some (.int (i+j),false)
 |.str i,.str j=>if i.length+j.length<=sizeLine then some (.str (i++j),false)else none
 |_,_=>none
theorem Il:dJ X (binaryOp .Add) (rD X.K Bb):=by
 refine iV (r:=rD X.K (DP Mh EB)) (nA Pr Mj) λx y H Q q=>?_;obtain⟨B,dx,dy,d,b,sB,ix,iy,e,q⟩:=q;refine⟨B,dx,dy,d,b,sB,ix,iy,?_,q⟩;cases dx<;>cases dy<;>simp[Bb]at e<;>simp[DP,Mh,EB,wJ,Ki,e]
@[simp] def fJ:D->D->Option (D×Bool):=Mi
theorem cQ:dJ X (binaryOp .Mult) (rD X.K fJ):=Ps
@[simp] def Pz:D->D->Option (D×Bool):=UJ
theorem EF:dJ X (compareOp .Lt) (rD X.K Pz):=S3
@[simp] noncomputable def wK:D->D->Option (D×Bool)
 |.int i,.int j=>some (.bl (decide (i<=j)),false)
 |.str i,.str j=>some (.bl (!decide (j.cps.toList<i.cps.toList)),false)
 |_,_=>none
theorem mq:dJ X (compareOp .LtE) (rD X.K wK):=by
 refine iV (r:=rD X.K (DP S1 Pu)) (nA S4 Pw) λx y H Q q=>?_;obtain⟨B,dx,dy,d,b,sB,ix,iy,e,q⟩:=q;refine⟨B,dx,dy,d,b,sB,ix,iy,?_,q⟩;cases dx<;>cases dy<;>simp[wK]at e<;>simp[DP,S1,Pu,wJ,Ki,e]
@[simp] noncomputable def pF:D->Option (D×Bool)
 |.int i=>some (.int (-i),false)
 |_=>none
theorem EG:OR X (unaryOp .USub) (Sy X.K pF):=by
 intro ae s σ H x v Q I rx q;obtain⟨B,dx,d,b,sB,ix,e,q⟩:=q;cases ix<;>try (simp[pF]at e;done)
 simp only[pF]at e;cases e
 exact LM ae s σ H _ v Q I rx ⟨_,rfl,q.one sB (.int _)⟩
@[simp] noncomputable def CM:D->D->Option Bool
 |.non,.non=>some true
 |_,.non=>some false
 |.bl a,.bl b=>some (a == b)
 |_,.bl _=>some false
 |_,_=>none
@[simp] def DQ:D->D->Option (D×Bool):=λx y=>(CM x y).map λb=>(.bl b,false)
@[simp] def lC:D->D->Option (D×Bool):=λx y=>(CM x y).map λb=>(.bl (!b),false)
theorem Bc {K:PySem.W.Frag}{B:Hp}{x y:V}{v u:Value}{dx dy:D}{k:Bool}(ix:Is K B x dx)(iy:Is K B y dy)(rx:ba x v)(ry:ba y u)(e:CM dx dy=some k):plainIs v u=true/\(v == u)=k:=by
 cases iy<;>(first|(cases dx<;>simp[CM]at e;done)|skip)
 all_goals (cases ix)
 all_goals (first|(obtain⟨t,rfl⟩:=rx)|cases rx)
 all_goals (cases ry)
 all_goals (simp only[CM,Option.some.injEq]at e;subst e)
 all_goals (first|exact⟨rfl,rfl⟩|skip)
 all_goals (rename_i c d;cases c<;>cases d<;>exact⟨rfl,rfl⟩)
theorem EH:dJ X (compareOp .Is) (rD X.K DQ):=by
 intro ae s σ H x y v u Q I rx ry q;obtain⟨B,dx,dy,d,b,sB,ix,iy,e,q⟩:=q;obtain⟨k,ek,e⟩:=oY e;cases e
 obtain⟨h1,h2⟩:=Bc ix iy rx ry ek;refine wpAny_is_plain h1 ⟨.bl k,H,I,by rw[h2];rfl,q.one sB (.bl _)⟩
theorem uL:dJ X (compareOp .IsNot) (rD X.K lC):=by
 intro ae s σ H x y v u Q I rx ry q;obtain⟨B,dx,dy,d,b,sB,ix,iy,e,q⟩:=q;obtain⟨k,ek,e⟩:=oY e;cases e
 obtain⟨h1,h2⟩:=Bc ix iy rx ry ek;refine wpAny_isNot_plain h1 ⟨.bl (!k),H,I,by rw[h2];rfl,q.one sB (.bl _)⟩
@[simp] noncomputable def g7:D->Bool
 |.non=>true|.bl _=>true|.int _=>true|.str _=>true
 |_=>false
noncomputable def Hf (x:D)(ds:List D):Bool:=ds.any λy=>bE y x
@[simp] noncomputable def gN:D->Option (List D)
 |.lst ds=>some ds
 |.tup ds=>some ds
 |_=>none
@[simp] def xE:D->D->Option (D×Bool):=λx y=>(gN y).bind λds=>if g7 x=true/\ds.all g7=true then some (.bl (Hf x ds),false)else none
@[simp] def ia:D->D->Option (D×Bool):=λx y=>(gN y).bind λds=>if g7 x=true/\ds.all g7=true then some (.bl (!Hf x ds),false)else none
theorem pG {K:PySem.W.Frag}{B:Hp}{v:V}{d:D}(i:Is K B v d)(h:g7 d=true):lh v=true:=by
 cases i<;>first|rfl|(simp[g7]at h)
theorem S7 {K:PySem.W.Frag}{B:Hp}{v w:V}{d e:D}(i:Is K B v d)(j:Is K B w e)(h:g7 d=true)(h':g7 e=true):Hb v w=bE d e:=by
 cases i<;>(first|(simp[g7]at h;done)|skip)
 all_goals (cases j<;>(first|(simp[g7]at h';done)|skip))
 all_goals (simp only[Hb,bE,Bool.beq_eq_decide_eq])
theorem xF {K:PySem.W.Frag}{B:Hp}:∀ {vs:List V}{ds:List D},IsL K B vs ds->ds.all g7=true->vs.all lh=true
 |_,_,.nil,_=>rfl
 |_,_,.cons i t,h=>by
  rw[List.all_cons,vC]at h;rw[List.all_cons,pG i h.1,xF t h.2];rfl
theorem EI {K:PySem.W.Frag}{B:Hp}{v:V}{d:D}(j:Is K B v d)(hd:g7 d=true):∀ {vs:List V}{ds:List D},IsL K B vs ds->ds.all g7=true->Rq v vs=Hf d ds
 |_,_,.nil,_=>rfl
 |_,_,.cons i t,h=>by
  rw[List.all_cons,vC]at h;have e:=EI j hd t h.2;unfold Rq Hf at *;rw[List.any_cons,List.any_cons,e,S7 i j h.1 hd]
theorem sS:dJ X (compareOp .In) (rD X.K xE):=by
 refine iV CA λx y H Q q=>?_;obtain⟨B,dx,dy,d,b,sB,ix,iy,e,q⟩:=q;obtain⟨ds,es,e⟩:=oX e;split at e
 ·rename_i hf;cases e
  cases iy<;>simp only[gN]at es<;>try (cases es;done)
  ·rename_i h hl;cases es
   exact⟨_,_,rfl,.inr (bo sB h),pG ix hf.1,xF hl hf.2,by rw[if_neg (by decide),EI ix hf.1 hl hf.2];exact q.one sB (.bl _)⟩
  ·rename_i h hl;cases es
   exact⟨_,_,rfl,.inl (sB.seq h),pG ix hf.1,xF hl hf.2,by rw[if_neg (by decide),EI ix hf.1 hl hf.2];exact q.one sB (.bl _)⟩
 ·cases e
theorem pH:dJ X (compareOp .NotIn) (rD X.K ia):=by
 refine iV uz λx y H Q q=>?_;obtain⟨B,dx,dy,d,b,sB,ix,iy,e,q⟩:=q;obtain⟨ds,es,e⟩:=oX e;split at e
 ·rename_i hf;cases e
  cases iy<;>simp only[gN]at es<;>try (cases es;done)
  ·rename_i h hl;cases es
   exact⟨_,_,rfl,.inr (bo sB h),pG ix hf.1,xF hl hf.2,by rw[if_pos rfl,EI ix hf.1 hl hf.2];exact q.one sB (.bl _)⟩
  ·rename_i h hl;cases es
   exact⟨_,_,rfl,.inl (sB.seq h),pG ix hf.1,xF hl hf.2,by rw[if_pos rfl,EI ix hf.1 hl hf.2];exact q.one sB (.bl _)⟩
 ·cases e
theorem jQ:bootBuiltins "len" = some (.builtin "len"):=PySem.boot_len
theorem j7:bootBuiltins "isinstance" = some (.builtin "isinstance"):=by decide +kernel
theorem P0:bootBuiltins "max" = some (.builtin "max"):=by decide +kernel
theorem P2:bootBuiltins "min" = some (.builtin "min"):=by decide +kernel
theorem P4:bootBuiltins "all" = some (.builtin "all"):=by decide +kernel
theorem K1:bootBuiltins "int" = some (.type "int"):=by decide +kernel
theorem Mu:bootBuiltins "bool" = some (.type "bool"):=by decide +kernel
theorem zY:bootBuiltins "list" = some (.type "list"):=by decide +kernel
theorem Bd:bootBuiltins "tuple" = some (.type "tuple"):=by decide +kernel
@[simp] noncomputable def Im:List D->Option (D×Bool)
 |[.int i,.int j]=>some (.int (if j > i then j else i),false)
 |_=>none
@[simp] noncomputable def Io:List D->Option (D×Bool)
 |[.int i,.int j]=>some (.int (if j<i then j else i),false)
 |_=>none
theorem xG {K:PySem.W.Frag}{B:Hp}{xs:List V}{i j:Int}(h:IsL K B xs [.int i,.int j]):xs=[.int i,.int j]:=by
 cases h with
 |cons h1 h2=>cases h1;cases h2 with|cons h3 h4=>cases h3;cases h4;rfl
theorem P5 (hc:X.calm=true:=by rfl):bP X (.builtin "max") (zM X.K Im):=by
 refine bP.to (C4 hc) λxs H Q q=>?_;obtain⟨B,ds,d,b,sB,i,e,q⟩:=q;match ds,e with
 |[.int i',.int j'],e=>simp only[Im]at e;cases e;exact⟨i',j',xG i,q.one sB (.int _)⟩
theorem P6 (hc:X.calm=true:=by rfl):bP X (.builtin "min") (zM X.K Io):=by
 refine bP.to (C5 hc) λxs H Q q=>?_;obtain⟨B,ds,d,b,sB,i,e,q⟩:=q;match ds,e with
 |[.int i',.int j'],e=>simp only[Io]at e;cases e;exact⟨i',j',xG i,q.one sB (.int _)⟩
@[simp] noncomputable def kj:D->String
 |.non=>"NoneType" | .bl _=>"bool" | .int _=>"int" | .str _=>"str" | .ty _=>"type" | .tup _=>"tuple" | .lst _=>"list" | .dk _ _=>"dict" | .dt _ _=>"dict"
@[simp] noncomputable def P7:D->Bool
 |.ty _=>true
 |_=>false
@[simp] noncomputable def Be (t n:String):Option (D×Bool) :=
 if n = "int" then some (.bl (t == "int" || t == "bool"),false)else if n = "bool" then some (.bl (t == "bool"),false)else if n = "str" then some (.bl (t == "str"),false)
 else if n = "list" then some (.bl (t == "list"),false)else if n = "tuple" then some (.bl (t == "tuple"),false)else none
@[simp] def c9:List D->Option (D×Bool)
 |[d,.ty n]=>if P7 d=true then none else Be (kj d) n
 |_=>none
theorem Ip {ae:List (Addr×Obj)}{σ:St}{H:Hp}{s:Shared}{A:Around}{E:Value->Shared->Prop}{Q:Value->Shared->Prop}{c:Value}{b:Bool}{v:V}{d:D}{u:Value}(I:Inv X ae σ H s)(i:Is X.K H v d)(hd:∀n,d≠.ty n)(rx:ba v u)(e:PySem.W.kitOne X.K (.type (kj d)) c=some b)(h:∀tk,Q (.bool b) { s with toks:=tk }):
  wpAny (model X.prog X.w) A (call (.builtin "isinstance") [u,c]) Q E s:=by
 cases i with
 |non=>exact gU I rx .non e h
 |bl y=>exact gU I rx (.bl y) e h
 |int y=>exact gU I rx (.int y) e h
 |str y=>exact gU I rx (.str y) e h
 |ty n=>exact absurd rfl (hd n)
 |dk h1 _ _=>exact gU I rx (.dK h1) e h
 |dt h1 _ _=>exact gU I rx (.dT h1) e h
 |tup ht _=>
  cases rx
  obtain⟨its,_,⟨o,h1,h2,_⟩,_⟩:=I.tuple ht;exact PySem.W.kia_one PySem.W.kitx_tuple I.kIn ⟨o,h1,h2⟩ e (λz=>nomatch z) h
 |lst hl _=>
  cases rx
  obtain⟨its,_,⟨o,n,h1,h2,_⟩,_⟩:=I.list hl;exact PySem.W.kia_one PySem.W.kitx_list I.kIn ⟨o,h1,h2⟩ e (λz=>nomatch z) h
theorem Mv (K:PySem.W.Frag)(d:D)(hd:∀n,d≠.ty n):
  PySem.W.kitOne K (.type (kj d)) (.type "int")=some (kj d == "int" || kj d == "bool")/\PySem.W.kitOne K (.type (kj d)) (.type "bool")=some (kj d == "bool")/\PySem.W.kitOne K (.type (kj d)) (.type "str")=some (kj d == "str") /\
   PySem.W.kitOne K (.type (kj d)) (.type "list")=some (kj d == "list")/\PySem.W.kitOne K (.type (kj d)) (.type "tuple")=some (kj d == "tuple"):=by
 cases d<;>(first|exact absurd rfl (hd _)|skip)
 all_goals (simp only[kj];refine⟨?_,?_,?_,?_,?_⟩<;>kernel_rfl)
theorem j8:bP X (.builtin "isinstance") (zM X.K c9):=by
 intro ae s σ H xs us Q I rs q;obtain⟨B,ds,d,b,sB,i,e,q⟩:=q;match ds,i,e with
 |[dx,.ty n],.cons i1 (.cons i2 .nil),e=>
  obtain⟨u1,u2,rfl,r1,r2⟩:=Eh rs;cases i2
  cases r2
  simp only[c9]at e;split at e
  ·cases e
  ·rename_i ht;have hd:∀n,dx≠.ty n:=λn z=>by subst z;exact ht rfl
   obtain⟨k1,k2,k3,k4,k5⟩:=Mv X.K dx hd;have lW:∀ {k:Bool},PySem.W.kitOne X.K (.type (kj dx)) (.type n)=some k->Fin X.K B H (.bl k) false Q->wpAny (model X.prog X.w) X.A (call (.builtin "isinstance") [u1,.type n]) (EP X ae σ Q) X.xe s:=λ{k} hk q=>
    Ip I (i1.mono sB) hd r1 hk λtk=>⟨.bl k,H,I.tok tk,rfl,q.one sB (.bl k)⟩
   unfold Be at e;split at e
   ·rename_i z;subst z;cases e;exact lW k1 q
   split at e
   ·rename_i z;subst z;cases e;exact lW k2 q
   split at e
   ·rename_i z;subst z;cases e;exact lW k3 q
   split at e
   ·rename_i z;subst z;cases e;exact lW k4 q
   split at e
   ·rename_i z;subst z;cases e;exact lW k5 q
   ·cases e
@[simp] noncomputable def UL:D->Option (D×Bool)
 |.int i=>some (.int (Builtin.Int.intBits i),false)
 |_=>none
@[simp] def EJ (f:FE):FA:=λρ=>(f ρ).bind λx=>gN x.1
theorem Bf (h:JE X e f):JI X tg e (EJ f):=by
 intro ae s σ H R I q;obtain⟨B,ρ,ds,sB,r,e',q⟩:=q;obtain⟨x,ex,es⟩:=oX e';obtain⟨xd,xb⟩:=x;cases xd<;>simp only[gN]at es<;>try (cases es;done)
 ·cases es
  refine LC h ae s σ H R I ⟨B,ρ,_,_,sB,r,ex,λv H1 N1 x1 i1 _=>?_⟩;cases i1 with
  |@tup a vs _ ht hl=>
   refine⟨a,rfl,⟨vs,bo x1.nh ht⟩,q _ H1 N1 x1 λi H2 s2=>⟨λd ed=>?_,λbL=>⟨vs,bo s2 ht,by rw[hl.length];exact bL⟩⟩⟩;obtain⟨v,ev,iv⟩:=hl.get ed;refine⟨⟨vs,v,bo s2 ht,ev⟩,λy H3 hy=>?_⟩;obtain⟨rfl,hy⟩:=hy;have:=hy vs (bo s2 ht);rw[ev]at this;cases this;exact⟨N1,.refl s2,iv⟩
 ·cases es
  refine Hw h ae s σ H R I ⟨B,ρ,_,_,sB,r,ex,λv H1 N1 x1 i1 _=>?_⟩;cases i1 with
  |@lst a vs _ ht hl=>
   refine⟨a,rfl,⟨vs,x1.nh.seq ht⟩,q _ H1 N1 x1 λi H2 s2=>⟨λd ed=>?_,λbL=>⟨vs,s2.seq ht,by rw[hl.length];exact bL⟩⟩⟩;obtain⟨v,ev,iv⟩:=hl.get ed;refine⟨⟨vs,v,s2.seq ht,ev⟩,λy H3 hy=>?_⟩;obtain⟨rfl,hy⟩:=hy;have:=hy vs (s2.seq ht);rw[ev]at this;cases this;exact⟨N1,.refl s2,iv⟩
noncomputable def fY (lo:Int)(n:Nat):List D:=(List.range n).map λ(k:Nat)=>.int (lo+(k:Int))
theorem EK {K:PySem.W.Frag}{B:Hp}(lo:Int)(n:Nat):pD K (Ro lo n) B (fY lo n):=by
 intro i H s;unfold fY;refine⟨λd ed=>?_,λhl=>by rw[vI,List.length_range]at hl;exact hl⟩;rw[vA]at ed;obtain⟨k,ek,ed⟩:=oY ed;have hk:=vV ek;obtain⟨fR,hk⟩:=hk;rw[List.length_range]at fR;rw[List.getElem_range]at hk;subst hk;subst ed;refine⟨fR,λx H' hy=>?_⟩;obtain⟨rfl,rfl⟩:=hy;exact⟨B,.refl s,.int _⟩
@[simp] def fZ (f:FE):FA:=λρ=>match f ρ with
 |some (.int j,_)=>if -1000<=j/\j<=1000 then some (fY 0 j.toNat)else none
 |_=>none
theorem jj (hm:X.mg "range" = none)(h:JE X a f)(hg:Gl X "range":=by rfl)(hs:starEach [a] X.env=[(false,eval a X.env)]:=by rfl):PI X tg (.Call (.Name "range" p) [a] [] pos) (Rr X.K (fZ f)):=by
 refine PI.to (C1 hg hm (ah h am hs) hs) λσ H R q=>?_;obtain⟨B,ρ,ds,sB,r,e',q⟩:=q;unfold fZ at e';split at e'
 ·rename_i j b' ef;split at e'
  ·rename_i hj;cases e'
   refine⟨B,ρ,[.int j],sB,r,by simp[af,ai,ef],λvs H1 N1 x1 i1=>?_⟩;cases i1 with
   |cons i1 i2=>
    cases i1;cases i2
    exact⟨j,rfl,by omega,by omega,q _ H1 N1 x1 λ_=>EK 0 j.toNat⟩
  ·cases e'
 ·cases e'
theorem EL (hm:X.mg "range" = none)(h:JE X a f)(hg:Gl X "range":=by rfl)(hs:starEach [a] X.env=[(false,eval a X.env)]:=by rfl):JI X tg (.Call (.Name "range" p) [a] [] pos) (fZ f) :=
 PI.to (jj hm h hg hs) λσ H R ⟨B,ρ,ds,sB,r,e',q⟩=>⟨B,ρ,ds,sB,r,e',λJ H' N x h=>q J H' N x (h _)⟩
end
def dH (K:PySem.W.Frag)(x:Str)(st:Stmt):Prop:=∃(f:Addr)(fd:FuncData),Nn K x x st f fd/\PySem.W.nsIn K mainGlobals x=some (some (.ref f))
theorem def_mk {K:PySem.W.Frag}{x:Str}{st:Stmt}{f:Addr}{oc:Value}{od an:Option Addr}{oK:Array (Option Value)}{kV doc pm eK ct:Value}(a:PySem.W.nsIn K mainGlobals x=some (some (.ref f)))
  (l:K.lookup f=some ⟨oc,od,.func (PySem.W.fnOf x x (gs st) (cK st) (aP st) .none kV doc pm an eK ct),oK⟩) (c:PySem.W.codeIn K eK x=true) (k:PySem.W.keepIn K (.ref f)=true):dH K x st:=⟨f,_,LV l c k,a⟩
section
variable {P:Program}{w:World}{K:PySem.W.Frag}{mg:Str->Option Value}{base:Heap}
theorem dH.fn {x:Str}{st:Stmt}{N ps:List Str}{k:Nat}{g:FS}{h:Heap}(F:dH K x st)(X:K.In h)(G:h.Ns mainGlobals mg)(S:FnScope N ps (aP st))
  (JG:∀(kV doc pm:Value)(an:Option Addr)(eK ct:Value)(us:List Value),us.length=ps.length->bindArgs (PySem.W.fnOf x x (gs st) (cK st) (aP st) .none kV doc pm an eK ct) ⟨us,[]⟩=pure (ps.zip us))
  (hb:∀(f:Addr)(eK:Value)(A:Around)(outer:List PySem.Env)(s:Shared)(H:Hp)(E:XK),eV k (A.deeper (envOfC x (aP st) s.heap.objs.size f eK))->wI (oQ zw P w K mg base N x (aP st) f eK A outer s H E).nox (cK st) g):
  Fn P w K mg base (k+1) x (aN g ps.length (N.length - ps.length)):=by
 obtain⟨f,fd,F1,a⟩:=F;exact⟨f,fd,ps,Px F1 S (hb f),PySem.W.mg_of X G a,F1.kp,F1.binds JG⟩
end
def P8 (H:Hp):Prop:=∀b,H b=none∨(∃o xs,H b=some (.frz o (.lst xs)))∨∃q,H b=some (.tbl q)
noncomputable def pJ (jV:List (Addr×Str))(G:Hp):Hp:=λb=>match jV.lookup b with|some q=>some (.tbl q)|none=>G b
theorem g8 (e:jV.lookup b=some q):pJ jV G b=some (.tbl q):=by unfold pJ;rw[e]
theorem jk (e:jV.lookup b=none):pJ jV G b=G b:=by unfold pJ;rw[e]
theorem CN {P:Program}{w:World}{K:PySem.W.Frag}{mg mb:Str->Option Value}{k:Nat}{fa a:Addr}{fd:FuncData}{x:Str}{sp:Sp}{s₁:Shared}{vs:List Value}{ns:List Int}(jV:List (Addr×Str))
  (ht:∀b q,jV.lookup b=some q->s₁.heap.get? b=some (PySem.W.tabObj #[])/\isCodeTable s₁.heap b) (Xt:PySem.W.noTabs K=true)
  (KX:K.In s₁.heap) (Oo:s₁.heap.Ns mainGlobals mg) (hb:s₁.heap.Ns builtinsNs mb) (Xu:∀x:Str,x ≠ "__name__"->mb x=bootBuiltins x) (T4:s₁.heap.NoLimit)
  (Xv:∃bm ob,mg "__builtins__" = some (.ref bm)/\bm≠builtinsNs/\s₁.heap.get? bm=some ob/\ob.cls=.type "module"/\ob.dict=some builtinsNs/\ob.data=.plain) (hg:s₁.gens=#[])
  (ha:s₁.heap.get? a=some { cls:=.type "list",data:=.seq vs.toArray }) (hi:IntsAre vs ns) (hl:ns.length<=sizeLine) (hr:eV k callerA)
  (F:∀base:Heap,K.In base->base.Ns mainGlobals mg->sw P w K mg base zw k fa fd [x] sp) (zl:∀(s:Shared)(u:Value),BindsTo s fd ⟨[u],[]⟩ [(x,u)])
  (Oj:∀H:Hp,(∀b q,jV.lookup b=some q->H b=some (.tbl q))->iF K H a (ns.map V.int)->sp [.ref a] H (λv _=>v=.bl true) λ_ _ _=>False):
  codeAny (model P w) callerA (.call (.ref fa) ⟨[.ref a],[]⟩) (λr s'=>r=.ok (.ret (.bool true))/\OldK s₁.heap s'.heap/\s'.os=s₁.os/\AllBare s'.gens) s₁:=by
 have rv:=L2.gV hi;have T5:=hi.length;have Qz:∀H:Hp,P8 H->(∀b q,jV.lookup b=some q->H b=some (.tbl q))->iF K H a (ns.map V.int)->lb P w H s₁.heap->(∀b q,H b=some (.tbl q)->s₁.heap.get? b=some (PySem.W.tabObj #[])/\isCodeTable s₁.heap b) ->
   (∀b o u,H b=some (.frz o u)->b=a)->(∀b o u,H b=some (.frz o u)->K.lookup b=none) ->
   codeAny (model P w) callerA (.call (.ref fa) ⟨[.ref a],[]⟩) (λr s'=>r=.ok (.ret (.bool true))/\OldK s₁.heap s'.heap/\s'.os=s₁.os/\AllBare s'.gens) s₁:=by
  intro H hO hT hS hok hA hB hK;have J5:∀ {b:Addr}{o:Obj},s₁.heap.get? b=some o->(o.cls≠.none)->(o.cls≠.type "list")->H b=none:=λ{b o} e d d'=>by
   rcases hO b with q|⟨ob,xs,q⟩|⟨u,q⟩
   ·exact q
   ·have e':b=a:=hB b _ _ q;subst e';rw[ha]at e;cases e;exact absurd rfl d'
   ·rw[(hA b u q).1]at e;cases e;exact absurd rfl d
  have Xw:∀ {b:Addr}{o:Obj}{es:Array DictEntry}{ep:Nat},s₁.heap.get? b=some o->o.data=.dict es ep->H b=none:=λ{b o es ep} e d=>by
   rcases hO b with q|⟨ob,xs,q⟩|⟨u,q⟩
   ·exact q
   ·have e':b=a:=hB b _ _ q;subst e';rw[ha]at e;cases e;cases d
   ·rw[(hA b u q).1]at e;cases e;cases d
  have RH:∀ {b:Addr}{m:Str->Option Value},s₁.heap.Ns b m->(wQ s₁.heap H).Ns b m:=λ{b m} ⟨o,es,ep,e,d,r⟩=>⟨o,es,ep,p8 e (Xw e d),d,r⟩;have Vz:K.In (wQ s₁.heap H):=λb o e=>p8 (KX b o e) (by
   rcases hO b with q|⟨ob,xs,q⟩|⟨u,q⟩
   ·exact q
   ·rw[hK b _ _ q]at e;cases e
   ·have z:=(hA b u q).1;rw[KX b o e]at z;cases z
    have:=uR Xt _ (PySem.W.mem_of_lookupK e);simp at this)
  have hM:Mod K mg (wQ s₁.heap H):=⟨Vz,RH Oo,⟨mb,RH hb,Xu⟩,let ⟨mc,h1,h2⟩:=T4;⟨mc,RH h1,h2⟩,by
   obtain⟨bm,ob,b1,b2,b3,b4,b5⟩:=Xv;exact⟨bm,ob,b1,b2,p8 b3 (J5 b3 (by rw[b4];exact λz=>nomatch z) (by rw[b4];intro z;injection z with z;exact absurd z (by decide))),b4,b5⟩⟩
  have e0:Env0 P w K mg (wQ s₁.heap H) callerA [] s₁ H:=⟨rfl,hM,λb o e=>Ho e,Nat.le_of_eq (Cy _ _),trivial,λb hb=>absurd (show b∈([]:List Addr)from hb) (by simp),hok,.of_eq hg⟩;refine codeAny_mono ((F _ Vz (RH Oo)).run callerA [] s₁ H ⟨[.ref a],[]⟩ [.ref a] [.ref a] _ _ hr e0 (zl s₁ (.ref a)) (.cons rfl .nil) (Oj H hT hS)) λr s' h=>?_;cases r with
  |error e=>exact False.elim h
  |ok fl=>
   cases fl with
   |next=>exact False.elim h
   |brk=>exact False.elim h
   |cont=>exact False.elim h
   |ret u=>
    obtain⟨v,H',os,bare,un,Q0,r',q⟩:=h;have q':v=.bl true:=q;subst q';obtain rfl:u=Value.bool true:=r';have kp:∀b o,H b=none->s₁.heap.get? b=some o->s'.heap.get? b=some o:=λb o n e=>un.keep b o e n (by intro z;exact absurd (show b∈([]:List Addr)from z) (by simp)) (by simp);refine⟨rfl,⟨λb o e=>?_,λb o e=>un.there b o e (by simp)⟩,os,bare⟩;rcases hO b with z|⟨ob,xs,z⟩|⟨u,z⟩
    ·exact .inl (kp b o z e)
    ·have z2:=un.frzs b ob _ z;obtain⟨e1,_⟩:=hok b _ z;obtain⟨e2,_⟩:=Q0 b _ z2;rw[e]at e1;cases e1;exact .inl e2
    ·obtain⟨e1,e2⟩:=hA b u z;rw[e]at e1;cases e1;obtain⟨ps,e3,_⟩:=Q0 b _ (un.tbls b u z);exact .inr (.inl ⟨e2,rfl,#[],ps,rfl,by simpa using e3⟩)
 have Nq:∀q,jV.lookup a≠some q:=λq z=>by
  have:=(ht a q z).1;rw[ha]at this;cases this
 have ta:jV.lookup a=none:=by
  cases z:jV.lookup a with
  |none=>rfl
  |some q=>exact absurd z (Nq q)
 have Lb:∀(G:Hp) b q,jV.lookup b=some q->bO P w (pJ jV G) s₁.heap b (.tbl q):=λG b q z=>⟨#[],(ht b q z).1,trivial,λpos cv c=>by cases c⟩;cases hk:K.lookup a with
 |some o=>
  have e:=KX a o hk;rw[ha]at e;cases e
  refine Qz (pJ jV λ_=>none) (λb=>?_) (λb q z=>g8 z) (.inr ⟨_,vs.toArray,_,hk,rfl,rfl,rfl,by rw[vH,T5];exact hl,by simpa using rv⟩) (λb u z=>?_) (λb q z=>?_) (λb o u z=>?_) λb o u z=>?_
  all_goals cases zt:jV.lookup b with
   |none=>first|exact .inl (jk zt)|(rw[jk zt]at z;cases z)
   |some q'=>first|exact .inr (.inr ⟨q',g8 zt⟩)|(rw[g8 zt]at z;cases z;done)|(rw[g8 zt]at z;cases z;first|exact Lb _ b _ zt|exact ht b _ zt)
 |none=>
  refine Qz (pJ jV λb=>if b=a then some (.frz { cls:=.type "list",data:=.seq vs.toArray } (.lst (ns.map V.int)))else none) (λb=>?_) (λb q z=>g8 z) (.inl (.inr ⟨{ cls:=.type "list",data:=.seq vs.toArray },by rw[jk ta,if_pos rfl]⟩)) (λb u z=>?_) (λb q z=>?_) (λb o u z=>?_) λb o u z=>?_
  all_goals cases zt:jV.lookup b with
   |some q'=>first|exact .inr (.inr ⟨q',g8 zt⟩)|(rw[g8 zt]at z;cases z;done)|(rw[g8 zt]at z;cases z;first|exact Lb _ b _ zt|exact ht b _ zt)
   |none=>
    first
    |rw[jk zt]at z
    |rw[jk zt]
    by_cases hb:b=a
    ·first
     |rw[if_pos hb]at z
     |rw[if_pos hb]
     first
     |exact .inr (.inl ⟨_,_,rfl⟩)
     | (cases z;subst hb;exact⟨ha,by rw[vI];exact hl,vs,_,rv,ha⟩)
     |exact hb
     | (rw[hb];exact hk)
     |cases z
    ·first
     | (rw[if_neg hb]at z;cases z)
     |exact .inl (if_neg hb)
noncomputable def uM (L:List (Str×Option (Addr×Addr))):List (Addr×Str):=L.filterMap λp=>p.2.map λq=>(q.2,pB p.1)
structure p7 (K:PySem.W.Frag)(L:List (Str×Option (Addr×Addr))):Prop where
 names:L=mh.map λx=>(x,PySem.W.tabIn K x)
 apart:((uM L).map (·.1)).Nodup
 none:PySem.W.noTabs K=true
theorem lq {α β:Type}[BEq α][LawfulBEq α]:∀ {l:List (α×β)}{a:α}{b:β},(l.map (·.1)).Nodup->(a,b)∈l->l.lookup a=some b
 | (c,d)::l,a,b,nd,h=>by
  rw[List.lookup_cons];rcases vP h with e|h
  ·cases e;simp
  ·have ne:a≠c:=λz=>(List.nodup_cons.mp nd).1 (by rw[←z];exact uS ⟨(a,b),h,rfl⟩);rw[show(a == c)=false by simpa using ne];exact lq (List.nodup_cons.mp nd).2 h
theorem km {α β:Type}[BEq α][LawfulBEq α]:∀ {l:List (α×β)}{a:α}{b:β},l.lookup a=some b->(a,b)∈l
 | (c,d)::l,a,b,h=>by
  rw[List.lookup_cons]at h;cases e:a == c with
  |true=>rw[e]at h;cases h;rw[eq_of_beq e];exact mX
  |false=>rw[e]at h;exact mZ _ (km h)
theorem p7.tb {K:PySem.W.Frag}{L:List (Str×Option (Addr×Addr))}(F:p7 K L){H:Hp}(h:∀b q,(uM L).lookup b=some q->H b=some (.tbl q)):Tb K H:=λx hx c P e=>by
 refine h P (pB x) (lq F.apart ?_);rw[F.names];exact List.mem_filterMap.mpr ⟨(x,PySem.W.tabIn K x),uS ⟨x,hx,rfl⟩,by rw[e];rfl⟩
theorem tab_yes {K:PySem.W.Frag}{x:Str}{f c P:Addr}{oc Xx:Value}{od T6:Option Addr}{oK Nr:Array (Option Value)}{fd:FuncData}{vs:Array Value}(e1:PySem.W.nsIn K mainGlobals x=some (some (.ref f)))(e2:K.lookup f=some ⟨oc,od,.func fd,oK⟩)(e3:fd.code=.ref c)
  (e4:K.lookup c=some ⟨Xx,T6,.fields vs,Nr⟩) (e5:vs[11]? = some (.ref P)):PySem.W.tabIn K x=some (c,P):=by unfold PySem.W.tabIn;simp only[e1,e2,e3,e4,e5]
theorem tabs_fit {K:PySem.W.Frag}{t0 t1 t2 t3:Option (Addr×Addr)}(h0:PySem.W.tabIn K "in_order" = t0)(h1:PySem.W.tabIn K "has_seal" = t1)(h2:PySem.W.tabIn K "is_first_death" = t2)(h3:PySem.W.tabIn K "bases_by" = t3)
  (ap:((uM [("in_order",t0),("has_seal",t1),("is_first_death",t2),("bases_by",t3)]).map (·.1)).Nodup) (nt:PySem.W.noTabs K=true):p7 K [("in_order",t0),("has_seal",t1),("is_first_death",t2),("bases_by",t3)] :=
 ⟨by subst h0;subst h1;subst h2;subst h3;rfl,ap,nt⟩
theorem walkD {l:PySem.W.OpenLaw}{q:Program}{Cq:List Str}{XP:(Str->Option Value)->Heap->Prop}{YP:World->Heap->Prop}{d:DefRec}{K:Params->PySem.W.Frag}{k:Nat}{x:Str}{f:List D->Option (D×Bool)}{L:List (Str×Option (Addr×Addr))}(hn:l.most=some 63)(Qm:d.params.defaults=[])(hr:eV k callerA)
  (hY:∀(w:World)(h:Heap),YP w h->(K w.params).In h) (hT:∀w:World,p7 (K w.params) L) (hD:(L.all λp=>p.2.isNone || ((recsOf q).find? λe=>e.name == p.1).isSome)=true)
  (F:∀(w:World)(mg:Str->Option Value)(fa:Addr)(h:Heap),(K w.params).In h->h.Ns mainGlobals mg->mg d.name=some (.ref fa) ->
   ∃fd:FuncData,(∀(s:Shared)(u:Value),BindsTo s fd ⟨[u],[]⟩ [(x,u)])/\∀base:Heap,(K w.params).In base->base.Ns mainGlobals mg->sw l.prog w (K w.params) mg base zw k fa fd [x] (Ih (K w.params) f))
  (ht:∀ns:List Int,ns.length<=63->∃b,f [.lst (ns.map .int)]=some (.bl true,b)):PySem.W.WalkO q Cq XP YP l.row.toRowW d [] (λf vs=>PySem.call f vs):=by
 refine Att.wZ hn Qm λw s₀ s₁ mg mb fa o pm cd doc a vs ns G Y ho hd jz hmg Nm GF bL hg=>?_;have KX:=hY w _ Y;obtain⟨fd,hb,hF⟩:=F w mg fa _ KX G.T.g hmg;refine CN (uM L) (λb u e=>?_) (hT w).none KX G.T.g G.T.b G.T.builtins G.T.nolimit G.T.bmain hg Nm GF (vR bL (by decide)) hr hF hb λH hH hS=>?_
 ·obtain⟨p,hp,e2⟩:=List.mem_filterMap.mp (km e);obtain⟨⟨c,P⟩,e3,e4⟩:=oY e2;cases e4
  have T7:=uR hD p hp;rw[e3]at T7;rw[Option.isNone_some,Bool.false_or]at T7;obtain⟨r,Xy⟩:=uU T7;have Q1:PySem.W.tabIn (K w.params) p.1=some (c,P):=by
   rw[(hT w).names]at hp;obtain⟨y,_,rfl⟩:=vO hp;exact e3
  obtain⟨h1,h2⟩:=PySem.W.tab_of G.T KX Xy Q1;exact⟨h2,(h1.tab h2).isCodeTable⟩
 ·obtain⟨b,e⟩:=ht ns bL;exact⟨H,_,_,b,⟨.refl H,(hT w).tb hH⟩,.cons (.lst hS (.flat rfl)) .nil,e,λv H' N x' i' _=>by cases i';rfl⟩
theorem dH.law {P:Program}{w:World}{K:PySem.W.Frag}{mg:Str->Option Value}{x y:Str}{st:Stmt}{N:List Str}{k:Nat}{g:FS}{h:Heap}{fa:Addr}(F:dH K x st)(X:K.In h)(G:h.Ns mainGlobals mg)(T8:mg x=some (.ref fa))(S:FnScope N [y] (aP st))
  (JG:∀(kV doc pm:Value)(an:Option Addr)(eK ct:Value)(u:Value),bindArgs (PySem.W.fnOf x x (gs st) (cK st) (aP st) .none kV doc pm an eK ct) ⟨[u],[]⟩=pure [(y,u)])
  (hb:∀(base:Heap),K.In base->base.Ns mainGlobals mg->∀(f:Addr)(eK:Value)(A:Around)(outer:List PySem.Env)(s:Shared)(H:Hp)(E:XK),eV k (A.deeper (envOfC x (aP st) s.heap.objs.size f eK))->wI (oQ zw P w K mg base N x (aP st) f eK A outer s H E).nox (cK st) g):
  ∃fd:FuncData,(∀(s:Shared)(u:Value),BindsTo s fd ⟨[u],[]⟩ [(y,u)])/\∀base:Heap,K.In base->base.Ns mainGlobals mg->sw P w K mg base zw (k+1) fa fd [y] (Ih K (aN g 1 (N.length - 1))):=by
 obtain⟨f,fd,F1,a⟩:=F;have e:=T8.symm.trans (PySem.W.mg_of X G a);cases e
 refine⟨fd,λs u=>?_,λbase kb nb=>Px F1 S (hb base kb nb _)⟩;obtain⟨oc,od,kV,doc,pm,an,eK,ct,oK,rfl,lk,jz⟩:=F1.ex;exact .of_eq (JG kV doc pm an eK ct u)
section
variable {X:Cx}{a b e:Expr}{pos:Pos}{x:Str}{p:Pos}
@[simp] noncomputable def EM:D->D->Option (D×Bool)
 |.lst xs,.lst ys=>if xs.length+ys.length<=sizeLine then some (.lst (xs++ys),true)else none
 |_,_=>none
theorem Mw:dJ X (binaryOp .Add) (rD X.K EM):=by
 intro ae s σ H x y v u Q I rx ry q;obtain⟨B,dx,dy,d,bb,sB,ix,iy,ee,q⟩:=q;cases ix<;>cases iy<;>try (simp[EM]at ee;done)
 rename_i l vs ds h hl l' ws es h' DH;simp only[EM]at ee;split at ee
 ·rename_i hz;cases ee
  cases rx
  cases ry
  obtain⟨its,r1,p1,z1⟩:=I.list (sB.seq h);obtain⟨gp,r2,p2,z2⟩:=I.list (sB.seq h');obtain⟨⟨c1,d1,t1,s1⟩,o1,e1,n1,k1⟩:=p1.isList;obtain⟨⟨c2,d2,t2,s2⟩,o2,e2,n2,k2⟩:=p2.isList;dsimp only at e1 k1 e2 k2;subst e1;subst k1;subst e2;subst k2;have hsz:its.toArray.size+gp.toArray.size<=sizeLine:=by
   rw[vH,vH,←r1.length,←r2.length,hl.length,DH.length];exact hz
  have ea:its.toArray++gp.toArray=(its++gp).toArray:=by simp
  refine concat_meets ⟨_,o1,rfl⟩ ⟨_,o2,rfl⟩ noFill_list_add seq_list_add PySem.F.slot_list_add PySem.F.entry_list_add (PySem.F.args_list_add_2 _ _) (list_addW l l' its.toArray gp.toArray n1 n2 d1 d2 s1 s2 hsz) ⟨o1,o2,?_⟩;rw[ea];have xt:=Ext.laid (o:=.lst (vs++ws)) sB I.fresh;have il:=(hl.append DH).mono xt.bn;exact⟨.ref s.heap.objs.size,_,I.lnew (t':=s.toks) (r1.append r2) (by rw[uZ,hl.length,DH.length];exact hz),rfl,q _ _ _ xt (.lst (iF.of aE) il) λ_=>⟨_,_,_,rfl,rfl,I.fresh,aE,il⟩⟩
 ·cases ee
@[simp] noncomputable def pK:D->D->Option (D×Bool)
 |.tup xs,.tup ys=>if xs.length+ys.length<=sizeLine/\xs.isEmpty=false then some (.tup (xs++ys),false)else none
 |_,_=>none
theorem EN:dJ X (binaryOp .Add) (rD X.K pK):=by
 refine iV HH λx y H Q q=>?_;obtain⟨B,dx,dy,d,bb,sB,ix,iy,ee,q⟩:=q;cases ix<;>cases iy<;>try (simp[pK]at ee;done)
 rename_i l vs ds h hl l' ws es h' DH;simp only[pK]at ee;split at ee
 ·rename_i hz;cases ee
  have l1:=hl.length;have l2:=DH.length;refine⟨l,l',vs,ws,rfl,rfl,bo sB h,bo sB h',λz=>?_,by omega,λz=>?_,λ_ pp hp=>?_⟩
  ·subst z;cases hl
   simp at hz
  ·subst z;cases DH
   rw[uQ]at q;exact q.one sB (.tup h hl)
  ·have xt:=Ext.laid (o:=.tup (vs++ws)) sB hp;exact q _ _ _ xt (.tup (jf.of aE) ((hl.append DH).mono xt.bn)) (by simp)
 ·cases ee
@[simp] noncomputable def CO:D->D->Option (D×Bool)
 |.bl i,.int j=>some (.int ((if i=true then 1 else 0)+j),false)
 |.int i,.bl j=>some (.int (i+b2i j),false)
 |_,_=>none
theorem Mx:dJ X (binaryOp .Add) (rD X.K CO):=by
 intro ae s σ H x y v u Q I rx ry q;obtain⟨B,dx,dy,d,bb,sB,ix,iy,ee,q⟩:=q;cases ix<;>cases iy<;>try (simp[CO]at ee;done)
 ·simp only[CO]at ee;cases ee
  cases rx
  obtain⟨t,rfl⟩:=ry;exact IntBool.add_bool_int ⟨.int _,H,I.tok _,⟨_,rfl⟩,q.one sB (.int _)⟩
 ·simp only[CO]at ee;cases ee
  exact C3 ae s σ H _ _ v u Q I rx ry ⟨_,_,rfl,rfl,q.one sB (.int _)⟩
@[simp] noncomputable def bX:D->D->Option (D×Bool)
 |.int i,.int j=>some (.int (i+j),false)
 |.str i,.str j=>if i.length+j.length<=sizeLine then some (.str (i++j),false)else none
 |.lst xs,.lst ys=>if xs.length+ys.length<=sizeLine then some (.lst (xs++ys),true)else none
 |.tup xs,.tup ys=>if xs.length+ys.length<=sizeLine/\xs.isEmpty=false then some (.tup (xs++ys),false)else none
 |.bl i,.int j=>some (.int ((if i=true then 1 else 0)+j),false)
 |.int i,.bl j=>some (.int (i+b2i j),false)
 |_,_=>none
theorem bu:dJ X (binaryOp .Add) (rD X.K bX):=by
 refine iV (r:=rD X.K (DP Bb (DP EM (DP pK CO)))) (nA Il (nA Mw (nA EN Mx))) λx y H Q q=>?_;obtain⟨B,dx,dy,d,bb,sB,ix,iy,ee,q⟩:=q;refine⟨B,dx,dy,d,bb,sB,ix,iy,?_,q⟩;cases dx<;>cases dy<;>simp[bX]at ee<;>simp[DP,Bb,EM,pK,CO,ee]
@[simp] noncomputable def S8:D->Option Bool
 |.bl b=>some b
 |_=>none
def pL:List D->Option (List Bool)
 |[]=>some []
 |d::ds=>(S8 d).bind λb=>(pL ds).map (b :: ·)
@[simp] theorem P9:pL []=some []:=rfl
@[simp] theorem CP (d:D)(ds:List D):pL (d::ds)=(S8 d).bind λb=>(pL ds).map (b :: ·):=rfl
theorem vc {K:PySem.W.Frag}{B:Hp}:∀ {vs:List V}{ds:List D}{bs:List Bool}{its:List Value},L2.aW vs its->IsL K B vs ds->pL ds=some bs->its=bs.map Value.bool
 |_,_,_,_,.nil,.nil,e=>by cases e;rfl
 |_,_,_,_,.cons r rr,.cons i ii,e=>by
  rw[CP]at e;obtain⟨b,e1,e⟩:=oX e;obtain⟨bs,e2,e⟩:=oY e;subst e;cases i<;>simp only[S8]at e1<;>try (cases e1;done)
  cases e1
  cases r
  rw[vc rr ii e2];rfl
@[simp] def My:List D->Option (D×Bool)
 |[.lst ds]=>(pL ds).map λbs=>(.bl (bs.all id),false)
 |_=>none
@[simp] def zZ:List D->Option (D×Bool)
 |[.lst ds]=>(pL ds).map λbs=>(.bl (bs.any id),false)
 |_=>none
theorem PB (hc:X.calm=true:=by rfl):bP X (.builtin "all") (zM X.K My):=by
 intro ae s σ H xs us Q I rs q;obtain⟨B,ds,d,bb,sB,i,ee,q⟩:=q;match ds,i,ee with
 |[.lst es],.cons i1 .nil,ee=>
  obtain⟨bs,eb,ee⟩:=oY ee;cases ee
  obtain⟨u1,rfl,r1⟩:=gM rs;cases i1 with
  |@lst l vs _ h hl=>
   cases r1
   obtain⟨its,rv,p1,z1⟩:=I.list (sB.seq h);have ei:=vc rv hl eb;have fR:l<s.heap.objs.size:=by obtain⟨_,e0,_⟩:=p1.isList;exact vX e0
   refine call_all_walk (wpAny_pyIter_list p1.isList ⟨_,_,_,_,_,_,λj=>(bs[j]?).getD true,rfl,Walks.list (A:=X.A.in1) (I.ok.hd hc) s.heap.objs.size l (vS fR) its.toArray,⟨⟨_,vY _ rfl,rfl,rfl⟩,p1.isList.push _⟩,λj v s' Q' E' hP hQ=>?_,λh' tk hk=>?_⟩)
   ·have Q2:its[j]? = some v:=by simpa using hP
    rw[ei,vA]at Q2;obtain⟨c,e1,e2⟩:=oY Q2;subst e2;dsimp only at hQ;rw[e1]at hQ;exact wpAny_truthy_bool hQ
   ·have ea:((List.range its.toArray.size).all λj=>(bs[j]?).getD true)=bs.all id:=by
     rw[vH,ei,vI];exact LSm.range_all bs
    rw[ea];refine⟨.bl _,H,I.kept λc o e0=>?_,rfl,q.one sB (.bl _)⟩;exact hk c o (λhm=>by rw[uT hm]at e0;exact Nat.lt_irrefl _ (vX e0)) (vZ _ e0)
theorem EO (hc:X.calm=true:=by rfl):bP X (.builtin "any") (zM X.K zZ):=by
 intro ae s σ H xs us Q I rs q;obtain⟨B,ds,d,bb,sB,i,ee,q⟩:=q;match ds,i,ee with
 |[.lst es],.cons i1 .nil,ee=>
  obtain⟨bs,eb,ee⟩:=oY ee;cases ee
  obtain⟨u1,rfl,r1⟩:=gM rs;cases i1 with
  |@lst l vs _ h hl=>
   cases r1
   obtain⟨its,rv,p1,z1⟩:=I.list (sB.seq h);have ei:=vc rv hl eb;have fR:l<s.heap.objs.size:=by obtain⟨_,e0,_⟩:=p1.isList;exact vX e0
   refine call_any_walk (wpAny_pyIter_list p1.isList ⟨_,_,_,_,_,_,λj=>(bs[j]?).getD false,rfl,Walks.list (A:=X.A.in1) (I.ok.hd hc) s.heap.objs.size l (vS fR) its.toArray,⟨⟨_,vY _ rfl,rfl,rfl⟩,p1.isList.push _⟩,λj v s' Q' E' hP hQ=>?_,λh' tk hk=>?_⟩)
   ·have Q2:its[j]? = some v:=by simpa using hP
    rw[ei,vA]at Q2;obtain⟨c,e1,e2⟩:=oY Q2;subst e2;dsimp only at hQ;rw[e1]at hQ;exact wpAny_truthy_bool hQ
   ·have ea:((List.range its.toArray.size).any λj=>(bs[j]?).getD false)=bs.any id:=by
     rw[vH,ei,vI];exact LSm.range_any bs
    rw[ea];refine⟨.bl _,H,I.kept λc o e0=>?_,rfl,q.one sB (.bl _)⟩;exact hk c o (λhm=>by rw[uT hm]at e0;exact Nat.lt_irrefl _ (vX e0)) (vZ _ e0)
theorem EQ:bootBuiltins "any" = some (.builtin "any"):=by decide +kernel
end
noncomputable def Rv (z:Str):It:=⟨λi _=>i<z.cps.size,λi H v H'=>H'=H/\∃c,z.cps[i]? = some c/\v=.str ⟨#[c]⟩,λi _=>z.cps.size<=i⟩
theorem xH {P:Program}{w:World}{K:PySem.W.Frag}{tg:Expr}(z:Str)(t:Tok)(it:Addr):Turn P w K tg (Rv z) [it] it (λi h=>h.IsStrIter it "str_ascii_iterator" z t i) where
 mem:=List.mem_singleton.mpr rfl
 obj:=λi h st b hb=>by
  have eb:=uT hb;subst eb;obtain⟨o,e1,_,d1⟩:=st;exact⟨o,e1,λv zz=>by rw[d1]at zz;cases zz⟩
 keep:=λi h h' st k=>let ⟨o,e1,r⟩:=st;⟨o,k it (List.mem_singleton.mpr rfl) o e1,r⟩
 item:=by
  intro X hP hw hK hc i ae s σ H E I hf st hg;subst hP hw hK;have Nt:i<z.cps.size:=hg;obtain⟨f0,f1,f2,f3,f4,f5⟩:=hf it (List.mem_singleton.mpr rfl);refine wpAny_pyNext_ascii_item st (c:=z.cps[i]) (by simp[Nt]) λh' jS sb=>?_;obtain⟨o,e1,c1,d1⟩:=id jS;exact⟨_,rfl,sC (s:={ s with heap:=h',toks:=s.toks+1 }) e1 c1 d1 (by decide) ⟨.str ⟨#[z.cps[i]]⟩,H,I.turned (λb o hb e2=>(sb.2 b hb).trans e2) f0 f1 f3 f4 f5,⟨_,rfl⟩,⟨rfl,_,by simp[Nt],rfl⟩,jS,λb hb=>(hf b hb).1⟩⟩
 done:=by
  intro X hP hw hK hc i ae s σ H E I hf st hg;subst hP hw hK;have Nt:z.cps.size<=i:=hg;obtain⟨f0,f1,f2,f3,f4,f5⟩:=hf it (List.mem_singleton.mpr rfl);exact wpAny_pyNext_ascii_end (I.ok.hd hc) st (by simp;omega) λh' eb=>⟨rfl,I.turned (t':=s.toks) (λb o hb e2=>eb b o hb e2) f0 f1 f3 f4 f5⟩
 self:=λ_ _ _ _ _ st h=>wpAny_pyIter_striter_ascii st h
theorem xI {P:Program}{w:World}{K:PySem.W.Frag}{tg:Expr}(z:Str)(t:Tok)(it:Addr):Turn P w K tg (Rv z) [it] it (λi h=>h.IsStrIter it "str_iterator" z t i) where
 mem:=List.mem_singleton.mpr rfl
 obj:=λi h st b hb=>by
  have eb:=uT hb;subst eb;obtain⟨o,e1,_,d1⟩:=st;exact⟨o,e1,λv zz=>by rw[d1]at zz;cases zz⟩
 keep:=λi h h' st k=>let ⟨o,e1,r⟩:=st;⟨o,k it (List.mem_singleton.mpr rfl) o e1,r⟩
 item:=by
  intro X hP hw hK hc i ae s σ H E I hf st hg;subst hP hw hK;have Nt:i<z.cps.size:=hg;obtain⟨f0,f1,f2,f3,f4,f5⟩:=hf it (List.mem_singleton.mpr rfl);refine wpAny_pyNext_wide_item st (c:=z.cps[i]) (by simp[Nt]) λh' jS sb=>?_;obtain⟨o,e1,c1,d1⟩:=id jS;exact⟨_,rfl,sC (s:={ s with heap:=h',toks:=s.toks+1 }) e1 c1 d1 (by decide) ⟨.str ⟨#[z.cps[i]]⟩,H,I.turned (λb o hb e2=>(sb.2 b hb).trans e2) f0 f1 f3 f4 f5,⟨_,rfl⟩,⟨rfl,_,by simp[Nt],rfl⟩,jS,λb hb=>(hf b hb).1⟩⟩
 done:=by
  intro X hP hw hK hc i ae s σ H E I hf st hg;subst hP hw hK;have Nt:z.cps.size<=i:=hg;obtain⟨f0,f1,f2,f3,f4,f5⟩:=hf it (List.mem_singleton.mpr rfl);exact wpAny_pyNext_wide_end (I.ok.hd hc) st (by simp;omega) λh' eb=>⟨rfl,I.turned (t':=s.toks) (λb o hb e2=>eb b o hb e2) f0 f1 f3 f4 f5⟩
 self:=λ_ _ _ _ _ st h=>wpAny_pyIter_striter_wide st h
section
variable {X:Cx}{a b e:Expr}{pos:Pos}{x:Str}{p:Pos}{tg:Expr}
theorem ER {l:Expr}{tl:TE}(hl:PE X l tl):PI X tg l (λσ H R=>tl σ H λx H1=>∃z,x=.str z/\R (Rv z) H1):=by
 intro ae s σ H R I h;refine cV (hl ae s σ H _ I h) λv s1 ⟨x,H1,I1,r1,q1⟩=>?_;obtain⟨z,rfl,q⟩:=q1;obtain⟨t,rfl⟩:=r1;have fp:∀b∈[s1.heap.objs.size],np X ae H1 b:=λb hb=>by
  rw[uT hb];exact I1.fpOk (vT _) (I1.hok.fresh (vT _))
 cases ha:z.cps.all (· < 128) with
 |true=>exact wpAny_pyIter_ascii ha ⟨_,[s1.heap.objs.size],_,_,H1,rfl,I1.kept (t':=s1.toks) λb o e=>vZ _ e,xH z t _,⟨_,vY _ rfl,rfl,rfl⟩,fp,q⟩
 |false=>exact wpAny_pyIter_wide ha ⟨_,[s1.heap.objs.size],_,_,H1,rfl,I1.kept (t':=s1.toks) λb o e=>vZ _ e,xI z t _,⟨_,vY _ rfl,rfl,rfl⟩,fp,q⟩
noncomputable def Bg (z:Str):List D:=z.cps.toList.map λc=>.str ⟨#[c]⟩
theorem ES {K:PySem.W.Frag}{B:Hp}(z:Str):pD K (Rv z) B (Bg z):=by
 intro i H s;refine⟨λd ed=>?_,λhl=>by unfold Bg at hl;show z.cps.size<=i;simpa using hl⟩;unfold Bg at ed;rw[vA]at ed;obtain⟨c,ec,rfl⟩:=oY ed;have V0:z.cps[i]? = some c:=by simpa using ec
 refine⟨(Array.getElem?_eq_some_iff.mp V0).1,λv H' hy=>?_⟩;obtain⟨rfl,c',e1,rfl⟩:=hy;rw[V0]at e1;cases e1;exact⟨B,.refl s,.str _⟩
@[simp] def Mz:D->Option (List D)
 |.lst ds=>some ds
 |.tup ds=>some ds
 |.str z=>some (Bg z)
 |_=>none
@[simp] def cq (f:FE):FA:=λρ=>(f ρ).bind λx=>Mz x.1
theorem c6 (h:JE X e f):JI X tg e (cq f):=by
 intro ae s σ H R I q;obtain⟨B,ρ,ds,sB,r,e',q⟩:=q;obtain⟨xx,ex,es⟩:=oX e';obtain⟨xd,xb⟩:=xx;cases xd with
 |lst l=>exact Bf h ae s σ H R I ⟨B,ρ,ds,sB,r,by unfold EJ;rw[ex];exact es,q⟩
 |tup l=>exact Bf h ae s σ H R I ⟨B,ρ,ds,sB,r,by unfold EJ;rw[ex];exact es,q⟩
 |str z=>
  cases es
  refine ER h ae s σ H R I ⟨B,ρ,_,_,sB,r,ex,λv H1 N1 x1 i1 _=>?_⟩;cases i1
  exact⟨z,rfl,q _ H1 N1 x1 (ES z)⟩
 |_=>cases es
theorem Iq:DO X (λx lo hi H Q=>∃z,x=.str z/\z.length<=sizeLine/\Q (.str (Txt.slice z lo hi)) H):=by
 intro ae s σ H x v vl vu lo hi sl Q I rx hs pl pu h;obtain⟨z,rfl,hz,q⟩:=h;obtain⟨t,rfl⟩:=rx;have lW:∀lo hi,Q (.str (Txt.slice z lo hi)) H->(Txt.slice z lo hi).length<=sizeLine/\∀t' k,EP X ae σ Q (.str (Txt.slice z lo hi) t') { s with toks:=k }:=λlo hi q=>
  ⟨vR (Txt.slice_le z _ _) hz,λt' k=>⟨.str _,H,I.tok k,⟨t',rfl⟩,q⟩⟩
 refine⟨"str",_,PySem.F.slot_str_getitem.lookup,typeIs_str _ _ _,?_⟩;cases pl with
 |none=>
  cases pu with
  |none=>exact wpAny_getItem_str_slice (l:=none) (u:=none) (st:=none) hs rfl (post_val_or_str (lW _ _ q))
  |int j tj=>exact wpAny_getItem_str_slice (l:=none) (u:=some (j,tj)) (st:=none) hs rfl (post_val_or_str (lW _ _ q))
 |int i ti=>
  cases pu with
  |none=>exact wpAny_getItem_str_slice (l:=some (i,ti)) (u:=none) (st:=none) hs rfl (post_val_or_str (lW _ _ q))
  |int j tj=>exact wpAny_getItem_str_slice (l:=some (i,ti)) (u:=some (j,tj)) (st:=none) hs rfl (post_val_or_str (lW _ _ q))
theorem CQ {A:Around}{E:Value->Shared->Prop}{s:Shared}{prog:Program}{w:World}{t sl:Addr}{items:Array Value}{vl vu:Value}{lo hi:Option Int}{Q:Value->Shared->Prop}(ht:IsTup s.heap t items)(hs:s.heap.IsSliceOf sl vl vu .none)(pl:IsPart vl lo)(pu:IsPart vu hi)
  (h0:HT.eA items.size 0 lo=0) (h1:HT.eA items.size items.size hi=items.size) (h:Q (.ref t) s):wpAny (model prog w) A (getItem (.ref t) (.ref sl)) Q E s:=by
 obtain⟨os,J7,wM,Nk⟩:=id hs
 have hT:s.TypeIs (.ref sl) "slice":=⟨os,J7,wM⟩
 unfold getItem
 try with_reducible refine wpAny_holding ?_
 first|refine wX (wY ?_)|skip
 refine wX (wpAny_sequenceKey ht.typeIs (by decide) ?_)
 refine wX (wpAny_callSpecial?_slot (name:=Str.ofString "__getitem__") ht.typeIs PyProof.Rows.slot_tuple_getitem (wpAny_call_entry PyProof.Rows.slot_tuple_getitem ht.typeIs entry_tuple_getitem ?_ (args_tuple_getitem _ _)))
 show wpAny _ _ (Builtin.Tuple.tupleItemsOf (.ref t)>>=_) _ _ s
 refine wX (tupleItemsOf_ ht ?_)
 refine wX (wpAny_typeOf hT ?_)
 rw[if_pos (by decide)]
 refine wX (HT.jg hs pl pu ?_)
 have Xz:(((HT.eA items.size 0 lo:Nat):Int) == 0 && (1:Int) == 1 && (HT.eA items.size items.size hi - HT.eA items.size 0 lo) == items.size)=true:=by
  rw[h0,h1];simp
 show wpAny _ _ (if(((HT.eA items.size 0 lo:Nat):Int) == 0 && (1:Int) == 1 && (HT.eA items.size items.size hi - HT.eA items.size 0 lo) == items.size)=true then _ else _) _ _ s
 rw[if_pos Xz]
 refine wX ?_
 unfold Builtin.Tuple.tupleIsExact
 refine wX (wpAny_typeOf ht.typeIs (wY ?_))
 show wpAny _ _ (if((Value.type "tuple") == Value.type "tuple")=true then _ else _) _ _ s
 rw[if_pos (by decide)]
 refine wX (wpAny_rule ?_)
 exact wY ⟨_,rfl,wY h⟩
theorem Ir:DO X (λx lo hi H Q=>∃a xs,x=.ref a/\jf X.K H a xs/\HT.eA xs.length 0 lo=0/\HT.eA xs.length xs.length hi=xs.length/\Q (.ref a) H):=by
 intro ae s σ H x v vl vu lo hi sl Q I rx hs pl pu h;obtain⟨a,xs,rfl,hx,h0,h1,q⟩:=h;cases rx
 obtain⟨its,r,ht,hz⟩:=I.tuple hx;have bL:its.toArray.size=xs.length:=by rw[vH];exact r.length.symm
 refine⟨"tuple",_,PyProof.Rows.slot_tuple_getitem.lookup,ht.typeIs,?_⟩;exact CQ ht hs pl pu (by rw[bL];exact h0) (by rw[bL];exact h1) ⟨.ref a,H,I,rfl,q⟩
@[simp] def Rw (fa:FE)(fl fh:FO):FE:=λρ=>(fa ρ).bind λx=>(fl ρ).bind λl=>(fh ρ).bind λh=>match x.1 with
 |.lst ds=>some (.lst (sg ds l h),true)
 |.tup ds=>some (.tup (sg ds l h),false)
 |.str z=>if z.length<=sizeLine then some (.str (Txt.slice z l h),false)else none
 |_=>none
theorem Aa {ds:List D}{lo hi:Option Int}(h0:HT.eA ds.length 0 lo=0)(h1:HT.eA ds.length ds.length hi=ds.length):sg ds lo hi=ds:=by
 unfold sg;rw[h0,h1];simp
theorem ET {lo hi:Option Expr}{p2:Pos}{fa:FE}{fl fh:FO}(ha:JE X e fa)(hl:JO X lo fl)(hh:JO X hi fh):JE X (.Subscript e (.Slice lo hi none p2) pos) (Rw fa fl fh):=by
 refine PE.to (Ek (DO.or (DO.or HL LR) (DO.or Iq Ir)) ha hl hh) λσ H Q q=>?_;obtain⟨B,ρ,d,b,sB,r,e,q⟩:=q;obtain⟨x,ex,e⟩:=oX e;obtain⟨l,el,e⟩:=oX e;obtain⟨h,eh,e⟩:=oX e;refine⟨B,ρ,x.1,x.2,sB,r,ex,λv H1 N1 x1 i1 _=>⟨N1,ρ,l,x1.nh,r.mono x1.bn,el,λH2 h2=>⟨N1,ρ,h,x1.nh.trans h2,r.mono x1.bn,eh,λH3 h3=>?_⟩⟩⟩;have s3:aU N1 H3:=x1.nh.trans (h2.trans h3);have q3:=q.into (x1.trans (.grow x1.nh (h2.trans h3)));obtain⟨xd,xb⟩:=x;dsimp only at e i1;cases i1 with
 |@tup a' vs ds hs hv=>
  cases e
  by_cases hw:HT.eA ds.length 0 l=0/\HT.eA ds.length ds.length h=ds.length
  ·rw[Aa hw.1 hw.2]at q3;exact .inr (.inr ⟨a',vs,rfl,bo s3 hs,by rw[hv.length];exact hw.1,by rw[hv.length];exact hw.2,q3.one s3 (.tup hs hv)⟩)
  ·refine .inl (.inr ⟨a',vs,rfl,bo s3 hs,by rw[hv.length];exact hw,λp hp=>?_⟩);have x4:=Ext.laid (o:=.tup (rZ vs l h)) s3 hp;exact q3 _ _ _ x4 (.tup (jf.of aE) ((uK hv).mono x4.bn)) (by simp)
 |@lst a' vs ds hs hv=>
  cases e
  refine .inl (.inl ⟨a',vs,rfl,s3.seq hs,λp hp=>?_⟩);have x4:=Ext.laid (o:=.lst (rZ vs l h)) s3 hp;exact q3 _ _ _ x4 (.lst (iF.of aE) ((uK hv).mono x4.bn)) λ_=>⟨p,_,_,rfl,rfl,hp,aE,(uK hv).mono x4.bn⟩
 |str z=>
  dsimp only at e;split at e
  ·rename_i hz;cases e
   exact .inr (.inl ⟨z,rfl,hz,q3.one s3 (.str _)⟩)
  ·cases e
 |_=>cases e
noncomputable def ve:Value->D->Bool
 |.none,.non=>true
 |.bool a,.bl b=>a == b
 |.int i _,.int j=>decide (i=j)
 |.str i _,.str j=>decide (i=j)
 |_,_=>false
def j9:List Value->List D->Bool
 |[],[]=>true
 |u::us,d::ds=>ve u d && j9 us ds
 |_,_=>false
theorem kO {K:PySem.W.Frag}{B:Hp}:∀ {u:Value}{d:D},ve u d=true->∃v,ba v u/\Is K B v d
 |.none,.non,_=>⟨.non,rfl,.non⟩
 |.bool a,.bl b,h=>by
  have:a=b:=eq_of_beq h;subst this;exact⟨.bl a,rfl,.bl a⟩
 |.int i t,.int j,h=>by
  have:i=j:=of_decide_eq_true h;subst this;exact⟨.int i,⟨t,rfl⟩,.int i⟩
 |.str i t,.str j,h=>by
  have:i=j:=of_decide_eq_true h;subst this;exact⟨.str i,⟨t,rfl⟩,.str i⟩
theorem jA {K:PySem.W.Frag}:∀ {us:List Value}{ds:List D},j9 us ds=true->∃vs,L2.aW vs us/\∀B,IsL K B vs ds
 |[],[],_=>⟨[],.nil,λ_=>.nil⟩
 |u::us,d::ds,h=>by
  rw[j9,vC]at h;obtain⟨vs,r,i⟩:=jA (K:=K) h.2;obtain⟨v,r1,_⟩:=kO (K:=K) (B:=λ_=>none) h.1;refine⟨v::vs,.cons r1 r,λB=>?_⟩;obtain⟨v',Nu,i'⟩:=kO (K:=K) (B:=B) h.1;have:v'=v:=by have z1:=r1.abs;rw[Nu.abs]at z1;exact vK z1
  subst this;exact .cons i' (i B)
theorem const_tup {K:PySem.W.Frag}{y:Str}{a:Addr}{od:Option Addr}{its:Array Value}{n:Nat}{oK:Array (Option Value)}{ds:List D}(e:PySem.W.nsIn K mainGlobals y=some (some (.ref a)))
  (l:K.lookup a=some ⟨.type "tuple",od,.seq its n,oK⟩) (h:(decide (its.size<=1000) && j9 its.toList ds)=true):∃u v,PySem.W.nsIn K mainGlobals y=some (some u)/\ba v u/\∀B,Is K B v (.tup ds):=by
 rw[vC]at h;obtain⟨vs,r,i⟩:=jA (K:=K) h.2;exact⟨_,.ref a,e,rfl,λB=>.tup (.inr ⟨_,its,n,l,rfl,rfl,Nat.le_of_lt (Nat.lt_of_le_of_lt (of_decide_eq_true h.1) (by decide)),r⟩) (i B)⟩
end
section
variable {X:Cx}{a b o e:Expr}{pos:Pos}{x:Str}{p:Pos}{tg:Expr}
theorem M0 {name:Str}{id:String}{dC cG:Pos}{op:D->D->Option (D×Bool)}{fo fe:FE}(slot:Slot "str" name id)(KZ:typeOf (.builtin id)=pure (.type "method_descriptor"))
  (hm:HJ X id (λx xs H Q=>∃y,xs=[y]/\rD X.K op x y H Q)) (GG:∀dx dy r,op dx dy=some r->∃z,dx=.str z) (ho:JE X o fo) (he:JE X e fe)
  (iC:attributeBase o name X.env (eval o X.env)=eval o X.env:=by rfl)
  (AF:((backTo cG (starEach [e] X.env)).all (λx=>!x.1) && (backToKw cG (keywordEach [] X.env)).all (λx=>x.1.isSome)
   && decide ([e].length+([]:List Keyword).length+(if([]:List Keyword).isEmpty then 0 else 1)<30))=true:=by rfl)
  (iD:(dC.endLine == cG.line)=true:=by rfl) (hs:starEach [e] X.env=[(false,eval e X.env)]:=by rfl):
  JE X (.Call (.Attribute o name dC) [e] [] cG) (f2 op fo fe):=by
 refine PE.to (En PySem.F.plainAttrs_str slot KZ hm ho (iI he jX hs) iC AF iD hs rfl) λσ H Q q=>?_;obtain⟨B,ρ,d,bb,sB,r,ee,q⟩:=q;obtain⟨x1,ex,ee⟩:=oX ee;obtain⟨y1,ey,ee⟩:=oX ee;obtain⟨z,hz⟩:=GG _ _ _ ee;refine⟨B,ρ,x1.1,x1.2,sB,r,ex,λv H1 N1 T9 i1 _=>?_⟩;rw[hz]at i1;cases i1
 refine⟨show "str" = "str" from rfl,N1,ρ,y1.1,y1.2,T9.nh,r.mono T9.bn,ey,λv2 H2 N2 Q3 i2 _=>⟨v2,rfl,N2,.str z,y1.1,d,bb,Q3.nh,.str z,i2,by rw[←hz];exact ee,q.into (T9.trans Q3)⟩⟩
@[simp] noncomputable def M2:D->Option Str
 |.str z=>some z
 |_=>none
def fN:List D->Option (List Str)
 |[]=>some []
 |d::ds=>(M2 d).bind λz=>(fN ds).map (z :: ·)
@[simp] theorem NY:fN []=some []:=rfl
@[simp] theorem Ab (d:D)(ds:List D):fN (d::ds)=(M2 d).bind λz=>(fN ds).map (z :: ·):=rfl
@[simp] theorem NZ (zs:List Str):fN (zs.map D.str)=some zs:=by
 induction zs with
 |nil=>rfl
 |cons z zs ih=>simp[ih]
theorem jl {K:PySem.W.Frag}{B:Hp}:∀ {vs:List V}{ds:List D}{zs:List Str}{its:List Value},L2.aW vs its->IsL K B vs ds->fN ds=some zs->StrsAre its zs
 |_,_,_,_,.nil,.nil,e=>by cases e;exact .nil
 |_,_,_,_,.cons r rr,.cons i ii,e=>by
  rw[Ab]at e;obtain⟨z,e1,e⟩:=oX e;obtain⟨zs,e2,e⟩:=oY e;subst e;cases i<;>simp only[M2]at e1<;>try (cases e1;done)
  cases e1
  obtain⟨t,rfl⟩:=r;exact .cons _ t (jl rr ii e2)
@[simp] def oq:D->D->Option (D×Bool)
 |.str sep,.lst ds=>(fN ds).bind λzs=>if(zs.map (·.length)).sum+zs.length*sep.length<=16777216 then some (.str (Txt.join sep zs),false)else none
 |.str sep,.tup ds=>(fN ds).bind λzs=>if(zs.map (·.length)).sum+zs.length*sep.length<=16777216 then some (.str (Txt.join sep zs),false)else none
 |_,_=>none
theorem M3:HJ X "str.join" (λx xs H Q=>∃y,xs=[y]/\rD X.K oq x y H Q):=by
 intro ae s σ H x xs v us Q I rx rs h;obtain⟨y,rfl,B,dx,dy,d,bb,sB,ix,iy,ee,q⟩:=h;obtain⟨u1,rfl,r1⟩:=gM rs;cases ix<;>(try (simp[oq]at ee;done))
 obtain⟨t,rfl⟩:=rx;cases iy<;>(try (simp[oq]at ee;done))
 ·rename_i h hl;simp only[oq]at ee;obtain⟨zs,ez,ee⟩:=oX ee;split at ee
  ·rename_i hok;cases ee
   cases r1
   obtain⟨its,rv,p1,z1⟩:=I.tuple (bo sB h);exact join_tuple p1 (by simpa using jl rv hl ez) hok λt' k=>⟨.str _,H,I.tok k,⟨t',rfl⟩,q.one sB (.str _)⟩
  ·cases ee
 ·rename_i h hl;simp only[oq]at ee;obtain⟨zs,ez,ee⟩:=oX ee;split at ee
  ·rename_i hok;cases ee
   cases r1
   obtain⟨its,rv,p1,z1⟩:=I.list (sB.seq h);exact join_list p1.isList (by simpa using jl rv hl ez) hok λt' k=>⟨.str _,H,I.tok k,⟨t',rfl⟩,q.one sB (.str _)⟩
  ·cases ee
theorem EU (dx dy:D)(r:D×Bool)(h:oq dx dy=some r):∃z,dx=.str z:=by
 cases dx<;>first|exact⟨_,rfl⟩|(cases dy<;>simp[oq]at h)
noncomputable def fO:List Nat->List D->Env->Option Env
 |[],[],ρ=>some ρ
 |i::is,d::ds,ρ=>fO is ds (ρ.set i (some (d,false)))
 |_,_,_=>none
@[simp] theorem sT (ρ:Env):fO [] [] ρ=some ρ:=by rw[fO]
@[simp] theorem lD (i:Nat)(is:List Nat)(d:D)(ds:List D)(ρ:Env):fO (i::is) (d::ds) ρ=fO is ds (ρ.set i (some (d,false))):=by rw[fO]
@[simp] theorem PD (d:D)(ds:List D)(ρ:Env):fO [] (d::ds) ρ=none:=by simp only[fO]
@[simp] theorem PF (i:Nat)(is:List Nat)(ρ:Env):fO (i::is) [] ρ=none:=by simp only[fO]
@[simp] def K2 (is:List Nat):FG:=λd ρ=>match d with|.tup ds=>fO is ds ρ|_=>none
def lE:List Nat->JV
 |[]=>OO
 |i::is=>JX (jM i) (lE is)
theorem EV:aU (dL N (own σ ρ)) (dL N (own (σ.set i (some v)) (ρ.set i (some (d,false))))):=eN λa u e q=>⟨e,λz=>q (by
 rcases uE z with⟨_,d',p⟩|⟨j,_,d',q1,q2⟩
 ·cases p
 ·exact⟨j,d',q1,q2⟩)⟩
theorem kP {K:PySem.W.Frag}:∀ {is:List Nat}{vs:List V}{ds:List D}{B0 H0 N H:Hp}{σ:St}{ρ ρ':Env}{Q:St->Hp->Prop},eB K B0 H0 N H σ ρ->IsL K (dL N (own σ ρ)) vs ds->fO is ds ρ=some ρ'->(∀σ',eB K B0 H0 N H σ' ρ'->Q σ' H)->lE is vs σ H Q
 |[],_,_,_,_,_,_,_,_,_,_,s,.nil,e,k=>by
  rw[sT]at e;cases e;exact⟨rfl,k _ s⟩
 |[],_,_,_,_,_,_,_,_,_,_,_,.cons _ _,e,_=>by simp at e
 |_::_,_,_,_,_,_,_,_,_,_,_,_,.nil,e,_=>by simp at e
 |i::is,_,_,_,_,_,_,_,_,_,_,s,.cons h hs,e,k=>by
  rw[lD]at e;exact⟨_,_,rfl,kP (s.bind h) (hs.mono EV) e k⟩
theorem kQ:∀ {is:List Nat}{ds:List D}{ρ ρ':Env},fO is ds ρ=some ρ'->ds.length=is.length
 |[],[],_,_,_=>rfl
 |_::_,_::_,_,_,e=>by rw[lD]at e;simp[kQ e]
 |[],_::_,_,_,e=>by simp at e
 |_::_,[],_,_,e=>by simp at e
theorem K3 {K:PySem.W.Frag}{is:List Nat}:HV K (K2 is) (LA K is.length (lE is)):=by
 intro B0 H0 N H σ ρ ρ' v d Q s h e k;cases h with
 |@tup a vs ds ht hl=>
  have e':fO is ds ρ=some ρ':=e;exact⟨a,vs,rfl,bo (bQ.trans s.ext.nh) ht,by rw[hl.length];exact kQ e',kP s hl e' λσ' s'=>k σ' H ⟨N,s'⟩⟩
 |_=>cases e
theorem sU {K:PySem.W.Frag}{n:Nat}{B H:Hp}{ρ0:Env}{Q:St->Hp->Prop}(cl:∀i,i<n->ρ0[i]? = some none):∀ {is:List Nat}{vs:List V}{ds:List D}{σ:St}{ρ ρ1:Env},(∀i∈is,i<n)->fE K B σ ρ->IsL K B vs ds->fO is ds ρ=some ρ1->ρ.length=σ.length->ρ.length=ρ0.length ->
  (∀σ1,fE K B σ1 ρ1->(∀B',fE K B' σ ρ0->fE K B' σ1 ρ0)->ρ0.length=σ1.length->Q σ1 H)->lE is vs σ H Q
 |[],_,_,_,_,_,_,rp,.nil,e,l1,l2,k=>by
  rw[sT]at e;cases e;exact⟨rfl,k _ rp (λ_ z=>z) (by omega)⟩
 |[],_,_,_,_,_,_,_,.cons _ _,e,_,_,_=>by simp at e
 |_::_,_,_,_,_,_,_,_,.nil,e,_,_,_=>by simp at e
 |i::is,_,_,σ,ρ,_,hn,rp,.cons (v:=v) h hs,e,l1,l2,k=>by
  rw[lD]at e;have hi:=hn i mX;have DA:i<σ.length:=by
   have:=(vV (cl i hi)).1;omega
  refine⟨_,_,rfl,sU cl (λj hj=>hn j (mZ _ hj)) ⟨rp.tb,λj d b q=>?_⟩ hs e (by simpa using l1) (by simpa using l2) λσ1 r1 r2 l=>k σ1 r1 (λB' z=>r2 B' ⟨z.tb,λj d b q=>?_⟩) l⟩
  ·rcases ce q with⟨rfl,pp⟩|⟨ne,pp⟩
   ·cases pp
    exact⟨v,by simp[DA],h⟩
   ·obtain⟨w,h1,h2⟩:=rp.at' j d b pp;exact⟨w,by rw[vB ne];exact h1,h2⟩
  ·obtain⟨w,h1,h2⟩:=z.at' j d b q;have ne:i≠j:=λz=>by subst z;rw[cl i hi]at q;cases q
   exact⟨w,by rw[vB ne];exact h1,h2⟩
theorem K4 {K:PySem.W.Frag}{n:Nat}{is:List Nat}(hn:∀i∈is,i<n):Me K n (K2 is) (LA K is.length (lE is)):=by
 intro B H σ ρ ρ1 v d Q cl rep s h e hl k;cases h with
 |@tup a vs ds ht hv=>
  have e':fO is ds ρ=some ρ1:=e;exact⟨a,vs,rfl,bo s ht,by rw[hv.length];exact kQ e',sU cl hn rep hv e' hl rfl k⟩
 |_=>cases e
end
section
variable {prog:Program}{w:World}{A:Around}{E:Value->Shared->Prop}{s:Shared}
theorem Ac (st:s.heap.IsTupleIter it l i)(ht:s.heap.IsTuple l items)(hv:items[i]? = some v)
  (k:∀h',h'.IsTupleIter it l (i+1)->Heap.SameBut it s.heap h'->Q v { s with heap:=h' }):wpAny (model prog w) A (Builtin.SmallTypes.nextOf (.ref it)) Q E s:=by
 obtain⟨o1,g1,c1,d1⟩:=id st;obtain⟨o2,g2,_,n2,d2⟩:=ht;unfold Builtin.SmallTypes.nextOf;refine wX (wpAny_callSpecial?_slot (name:=Str.ofString "__next__") st.typeIs PySem.F.slot_tuple_iterator_next (wpAny_call_entry PySem.F.slot_tuple_iterator_next st.typeIs PySem.F.entry_tuple_iterator_next ?_ (PySem.F.args_tuple_iterator_next_1 _)));show wpAny _ _ (field (.ref it) 0>>=_) _ _ _;refine wX (wpAny_field g1 d1 (x:=.ref l) rfl ?_);show wpAny _ _ (if(Value.ref l == Value.none)=true then _ else _) _ _ _;rw[if_neg (λz=>uX z:¬((Value.ref l == Value.none)=true))];show wpAny _ _ (field (.ref it) 1>>=_) _ _ _;refine wX (wpAny_field g1 d1 (x:=.int i 0) rfl ?_);show wpAny _ _ (seqItems? (.ref l)>>=_) _ _ _;refine wX (wpAny_seqItems g2 d2 ?_);simp only[hv,Int.toNat_natCast];refine wX (wpAny_setField g1 d1 (by simp) (wY ⟨v,rfl,wY (k _ ?_ (vW ..))⟩));exact⟨_,Heap.get?_update_self _ g1 (Obj.isFreed_of_fields (Obj.data_mapFields d1 _)),(Obj.cls_mapFields ..).trans c1,by rw[Obj.data_mapFields d1];simp[rawInt]⟩
theorem CS (hA:A.handled=none)(st:s.heap.IsTupleIter it l i)(ht:s.heap.IsTuple l items)(hv:items[i]? = none)
  (k:∀h' x,Heap.ExtBut it s.heap h'->(∃o,h'.get? x=some o/\o.cls=.type "StopIteration")->E (.ref x) { s with heap:=h' }):wpAny (model prog w) A (Builtin.SmallTypes.nextOf (.ref it)) Q E s:=by
 obtain⟨o1,g1,c1,d1⟩:=id st;obtain⟨o2,g2,_,n2,d2⟩:=ht;unfold Builtin.SmallTypes.nextOf;refine wX (wpAny_callSpecial?_slot (name:=Str.ofString "__next__") st.typeIs PySem.F.slot_tuple_iterator_next (wpAny_call_entry PySem.F.slot_tuple_iterator_next st.typeIs PySem.F.entry_tuple_iterator_next ?_ (PySem.F.args_tuple_iterator_next_1 _)));show wpAny _ _ (field (.ref it) 0>>=_) _ _ _;refine wX (wpAny_field g1 d1 (x:=.ref l) rfl ?_);show wpAny _ _ (if(Value.ref l == Value.none)=true then _ else _) _ _ _;rw[if_neg (λz=>uX z:¬((Value.ref l == Value.none)=true))];show wpAny _ _ (field (.ref it) 1>>=_) _ _ _;refine wX (wpAny_field g1 d1 (x:=.int i 0) rfl ?_);show wpAny _ _ (seqItems? (.ref l)>>=_) _ _ _;refine wX (wpAny_seqItems g2 d2 ?_);simp only[hv,Int.toNat_natCast];refine wX (wpAny_rule (wX (wpAny_setField g1 d1 (by simp) ?_)));show wpAny _ _ (newExc (.type "StopIteration") []>>=_) _ _ _;refine wX ?_;simp only[newTuple,newExc];refine wX (wpAny_newObj_type ?_ (by size_fits));refine wX (m:=firstArgMember _ _) (wpAny_of_eq (a:=Value.none) (by first|(simp only[firstArgMember];rfl)|rfl) ?_);refine wpAny_newObj_type ?_ (by size_fits);simp only[raiseNew];refine wX (wpAny_handled ?_);first|rw[hA]|rw[show A.in1.handled=none from hA]
 exact wX (wY (wpAny_throw (k _ _ (((vW ..).extBut.push _).push _) ⟨_,vY _ rfl,rfl⟩)))
end
def Bh:Bool->Heap->Addr->Addr->Nat->Prop
 |true,h,it,a,i=>h.IsListIter it a i
 |false,h,it,a,i=>h.IsTupleIter it a i
def zx:Bool->Heap->Addr->Array Value->Prop
 |true,h,a,items=>h.IsList a items
 |false,h,a,items=>h.IsTuple a items
def zy (k:Bool)(K:PySem.W.Frag)(H:Hp)(a:Addr)(xs:List V):Prop:=match k with|true=>iF K H a xs|false=>jf K H a xs
theorem Bh.ob (st:Bh k h it a i):∃o,h.get? it=some o/\∀v,o.data≠.cell v:=by
 cases k<;>(obtain⟨o,g,_,d⟩:=st;exact⟨o,g,λv z=>by rw[d]at z;cases z⟩)
theorem Bh.upon (st:Bh k h it a i)(g:∀o,h.get? it=some o->h'.get? it=some o):Bh k h' it a i:=by
 cases k<;>(obtain⟨o,e,r⟩:=st;exact⟨o,g o e,r⟩)
theorem zx.upon (st:zx k h a items)(g:∀o,h.get? a=some o->h'.get? a=some o):zx k h' a items:=by
 cases k<;>(obtain⟨o,e,r⟩:=st;exact⟨o,g o e,r⟩)
theorem zx.lt (st:zx k h a items):a<h.objs.size:=by
 cases k<;>(obtain⟨o,e,r⟩:=st;exact vX e)
theorem zy.same {k:Bool}{K:PySem.W.Frag}{H H':Hp}{a:Addr}{xs:List V}(h:zy k K H a xs)(e:aU H H'):zy k K H' a xs:=by
 cases k
 ·exact bo e h
 ·exact e.seq h
theorem zy.vals (I:Inv X ae σ H s)(h:zy k X.K H a xs):∃its:List Value,aW xs its/\zx k s.heap a its.toArray/\xs.length<=sizeLine:=by
 cases k
 ·exact I.tuple h
 ·obtain⟨its,r,p,z⟩:=I.list h;exact⟨its,r,p.isList,z⟩
theorem zy.inj (I:Inv X ae σ H s)(h:zy k X.K H a xs)(h':zy k X.K H a ys):xs=ys:=by
 cases k
 ·exact I.tuple_inj h h'
 ·exact I.list_inj h h'
section
variable {prog:Program}{w:World}{A:Around}{E:Value->Shared->Prop}{s:Shared}
theorem CT (st:Bh k s.heap it l i)(ht:zx k s.heap l items)(hv:items[i]? = some v)
  (q:∀h',Bh k h' it l (i+1)->Heap.SameBut it s.heap h'->Q v { s with heap:=h' }):wpAny (model prog w) A (Builtin.SmallTypes.nextOf (.ref it)) Q E s:=by
 cases k
 ·exact Ac st ht hv q
 ·exact wpAny_nextOf_list_item st ht hv q
theorem xJ (hA:A.handled=none)(st:Bh k s.heap it l i)(ht:zx k s.heap l items)(hv:items[i]? = none)
  (q:∀h' x,Heap.ExtBut it s.heap h'->(∃o,h'.get? x=some o/\o.cls=.type "StopIteration")->E (.ref x) { s with heap:=h' }):wpAny (model prog w) A (Builtin.SmallTypes.nextOf (.ref it)) Q E s:=by
 cases k
 ·exact CS hA st ht hv q
 ·exact wpAny_nextOf_list_end hA st ht hv q
end
noncomputable def M4 (k:Bool)(l:Addr):Obj:={ cls:=.type (if k=true then "list_iterator" else "tuple_iterator"),data:=.fields #[.ref l,.int 0 0] }
theorem vg (ht:zx k s.heap l items)
  (q:Q (.ref s.heap.objs.size) { s with heap:=s.heap.push (M4 k l) }):wpAny (model prog w) A (pyIter (.ref l)) Q E s:=by
 cases k
 ·exact wpAny_pyIter_tuple ht q
 ·exact wpAny_pyIter_list ht q
theorem zx.push (st:zx k h a items)(o:Obj):zx k (h.push o) a items:=st.upon λ_ e=>vZ _ e
theorem pi {X:Cx}{ae:List (Addr×Obj)}{σ:St}{H:Hp}{s:Shared}{h':Heap}{t':Nat}{ch:List Addr}(I:Inv X ae σ H s)(f:∀b∈ch,np X ae H b)(k:∀b o,b∉ch->s.heap.get? b=some o->h'.get? b=some o):Inv X ae σ H { s with heap:=h',toks:=t' }:=by
 have KU:∀b u,H b=some u->b∉ch:=λb u e z=>by rw[(f b z).1]at e;cases e
 refine I.step (g':=s.gens) (d':=s.drawn) (ch:=ch) (λb hb=>?_) (λb o _ _ hc e _=>k b o hc e) (λb o _ _ hc e _=>⟨o.slots,k b o hc e⟩) (λ_ _ _ _ n=>n)
  (λb o hc e=>⟨o,k b o hc e⟩) (λ_ _ e=>e) (λ_ _ _ e=>e) (λ_ _ e=>e) (λm hm=>?_) (λb u e=>?_) I.bare
 ·obtain⟨_,f1,_,f3,f4,f5⟩:=f b hb;exact⟨f3,f1,f4,f5⟩
 ·obtain⟨o,es,ep,ho,r⟩:=hm;exact⟨o,es,ep,k _ o (λz=>(f _ z).2.1 rfl) ho,r⟩
 ·refine(I.hok b u e).stay (λc v hc q=>k c v ?_ q) (λ_ q=>q) (λ_ _ q=>q) λ_ _ _ q=>q;rcases hc with z|z
  ·rw[z];exact KU b u e
  ·exact KU c _ z
theorem K5 {X:Cx}{ae:List (Addr×Obj)}{σ:St}{H:Hp}{s:Shared}{h':Heap}{t':Nat}{ch:List Addr}{a:Addr}{ob:HO}(I:Inv X ae σ H s)(f:∀b∈ch,np X ae H b)(k:∀b o,b∉ch->s.heap.get? b=some o->h'.get? b=some o)(ha:s.heap.objs.size<=a)
  (new:bO X.prog X.w (upd H a ob) h' a ob):Inv X ae σ (upd H a ob) { s with heap:=h',toks:=t' }:=by
 have hn:H a=none:=I.hok.fresh ha;have KU:∀b u,H b=some u->b∉ch:=λb u e z=>by rw[(f b z).1]at e;cases e
 have na:∀b o,s.heap.get? b=some o->b≠a:=λb o e=>vS (vQ (vX e) ha);refine I.step (g':=s.gens) (d':=s.drawn) (ch:=ch) (λb hb=>?_) (λb o _ _ hc e _=>k b o hc e) (λb o _ _ hc e _=>⟨o.slots,k b o hc e⟩) (λb o _ e n=>by rw[aI (na b o e)];exact n)
  (λb o hc e=>⟨o,k b o hc e⟩) (λb xs e=>by rw[aI (aX e hn)];exact e) (λb o u e=>by rw[aI (aX e hn)];exact e) (λb ps e=>by rw[aI (aX e hn)];exact e) (λm hm=>?_) (λb u e=>?_) I.bare
 ·obtain⟨_,f1,_,f3,f4,f5⟩:=f b hb;exact⟨f3,f1,f4,f5⟩
 ·obtain⟨o,es,ep,ho,r⟩:=hm;exact⟨o,es,ep,k _ o (λz=>(f _ z).2.1 rfl) ho,r⟩
 ·by_cases hb:b=a
  ·subst hb;rw[aE]at e;cases e;exact new
  ·rw[aI hb]at e;refine(I.hok b u e).stay (λc v hc q=>k c v ?_ q) (λc q=>?_) (λc xs q=>?_) λc o xs q=>?_
   ·rcases hc with z|z
    ·rw[z];exact KU b u e
    ·exact KU c _ z
   ·rw[aI (aX q hn)];exact q
   ·rw[aI (aX q hn)];exact q
   ·rw[aI (aX q hn)];exact q
section
variable {X:Cx}{a b e:Expr}{pos:Pos}{p:Pos}
noncomputable def S9 (xs ys:List D):List D:=List.zipWith (λx y=>.tup [x,y]) xs ys
@[simp] def SA (fa fb:FE):FA:=λρ=>(fa ρ).bind λx=>(fb ρ).bind λy=>(gN x.1).bind λxs=>(gN y.1).map λys=>S9 xs ys
theorem K6 {K:PySem.W.Frag}{B:Hp}{v:V}{d:D}{ds:List D}(h:Is K B v d)(e:gN d=some ds):∃k a vs,v=.ref a/\zy k K B a vs/\IsL K B vs ds:=by
 cases h with
 |tup ht hl=>cases e;exact⟨false,_,_,rfl,ht,hl⟩
 |lst ht hl=>cases e;exact⟨true,_,_,rfl,ht,hl⟩
 |_=>cases e
end
noncomputable def unown1 (ρ:Env)(i:Nat):Env:=match ρ[i]? with
 |some (some (d,true))=>ρ.set i (some (d,false))
 |_=>ρ
theorem eB.unown1 {K:PySem.W.Frag}{B0 H0 N H:Hp}{σ:St}{ρ:Env}(s:eB K B0 H0 N H σ ρ)(i:Nat):eB K B0 H0 N H σ (unown1 ρ i):=by
 unfold DL.unown1;split
 ·rename_i d hd;obtain⟨a,ob,h1,h2,h3,h4⟩:=s.ow i d hd;have get:∀ {j:Nat}{e:D}{b:Bool},(ρ.set i (some (d,false)))[j]? = some (some (e,b))->(i=j/\e=d/\b=false)∨(i≠j/\ρ[j]? = some (some (e,b))):=λq=>by
   rcases ce q with⟨z,p⟩|⟨z,p⟩
   ·cases p;exact .inl ⟨z,rfl,rfl⟩
   ·exact .inr ⟨z,p⟩
  have o:∀c,own σ (ρ.set i (some (d,false))) c->own σ ρ c/\c≠a:=λc ⟨j,e,q1,q2⟩=>by
   rcases get q1 with⟨_,_,z⟩|⟨ne,q⟩
   ·cases z
   ·exact⟨⟨j,e,q,q2⟩,λz=>by subst z;exact ne (s.inj i j _ _ _ hd q h1 q2)⟩
  have c:aU (dL N (own σ ρ)) (dL N (own σ (ρ.set i (some (d,false))))):=eN λb u e q=>⟨e,λz=>q (o b z).1⟩;have na:¬own σ (ρ.set i (some (d,false))) a:=λz=>(o a z).2 rfl;refine⟨s.bh,s.tb,s.ext,by rw[List.length_set];exact s.len,λj e q=>?_,λj e q=>?_,λj k b e f q q' z1 z2=>?_⟩
  ·rcases get q with⟨rfl,rfl,_⟩|⟨_,q⟩
   ·exact⟨_,h1,(h4.mono c).is (by rw[cO na];exact h2)⟩
   ·obtain⟨v,k1,k2⟩:=s.sh j e q;exact⟨v,k1,k2.mono c⟩
  ·rcases get q with⟨_,_,z⟩|⟨_,q⟩
   ·cases z
   ·obtain⟨a',o',k1,k2,k3,k4⟩:=s.ow j e q;exact⟨a',o',k1,k2,k3,k4.mono c⟩
  ·rcases get q with⟨_,_,z⟩|⟨_,q⟩
   ·cases z
   ·rcases get q' with⟨_,_,z⟩|⟨_,q'⟩
    ·cases z
    ·exact s.inj j k b e f q q' z1 z2
 ·exact s
@[simp] noncomputable def M5 (is:List Nat)(g:FS):FS:=λρ=>g (is.foldl unown1 ρ)
theorem eB.unowns {K:PySem.W.Frag}{B0 H0 N H:Hp}{σ:St}:∀(is:List Nat){ρ:Env},eB K B0 H0 N H σ ρ->eB K B0 H0 N H σ (is.foldl DL.unown1 ρ)
 |[],_,s=>s
 |i::is,_,s=>eB.unowns is (s.unown1 i)
theorem M6 {K:PySem.W.Frag}{is:List Nat}{g:FS}{E:Ends}{σ:St}{H:Hp}(q:nw K (M5 is g) E σ H):nw K g E σ H:=by
 obtain⟨B0,H0,ρ,r,⟨N,s⟩,e,p⟩:=q;exact⟨B0,H0,_,r,⟨N,s.unowns is⟩,e,p⟩
theorem EW {X:Cx}{st:Stmt}{g:FS}(is:List Nat)(h:JS X st g):JS X st (M5 is g):=PS.to h λ_ _ _ q=>M6 q
@[simp] noncomputable def K7:FS:=λρ=>some (.ct ρ)
@[simp] noncomputable def SD:FS:=λρ=>some (.bk ρ)
@[simp] noncomputable def SE:FS:=λ_=>none
section
variable {X:Cx}{pos:Pos}
theorem Iu:JS X (.Continue pos) K7:=PS.to wT λE σ H q=>by
 obtain⟨B0,H0,ρ,r,s,e,p⟩:=q;cases e
 exact p σ H s
end
inductive CRows (K:PySem.W.Frag)(P:Params):List DictEntry->List (Str×D)->Prop where
 |nil:CRows K P [] []
 |tup {x:Str}{t:Tok}{h:Int}{a:Addr}{its:Array Value}{n:Nat}{oK:Array (Option Value)}{ds:List D}{r:List DictEntry}{aL:List (Str×D)}(hh:h=PyData.keyHash P x)
   (l:K.lookup a=some ⟨.type "tuple",none,.seq its n,oK⟩) (f:(decide (its.size<=1000) && j9 its.toList ds)=true) (tl:CRows K P r aL):CRows K P (⟨h,.str x t,.ref a⟩::r) ((x,.tup ds)::aL)
 |flat {x:Str}{t:Tok}{h:Int}{u:Value}{d:D}{r:List DictEntry}{aL:List (Str×D)}(hh:h=PyData.keyHash P x) (f:ve u d=true) (tl:CRows K P r aL):CRows K P (⟨h,.str x t,u⟩::r) ((x,d)::aL)
theorem CRows.lit {K:PySem.W.Frag}{P:Params}:∀ {es:List DictEntry}{aL:List (Str×D)},CRows K P es aL->PySem.W.KeysLit P es
 |_,_,.nil=>trivial
 |_,_,.tup hh _ _ tl=>⟨⟨_,_,rfl,hh⟩,tl.lit⟩
 |_,_,.flat hh _ tl=>⟨⟨_,_,rfl,hh⟩,tl.lit⟩
theorem CRows.find {K:PySem.W.Frag}{P:Params}(y:Str):∀ {es:List DictEntry}{aL:List (Str×D)},CRows K P es aL->match aL.lookup y with
  |none=>es.find? (λe=>Value.isStrOf y e.key)=none
  |some d=>∃e v,es.find? (λe=>Value.isStrOf y e.key)=some e/\ba v e.val/\∀B,Is K B v d
 |_,_,.nil=>rfl
 |_,_,.tup (x:=x) (t:=t) (a:=a) (ds:=ds) hh l f tl=>by
  by_cases e:y=x
  ·subst e;rw[List.lookup_cons_self];rw[vC]at f;obtain⟨vs,r,i⟩:=jA (K:=K) f.2;exact⟨_,.ref a,List.find?_cons_of_pos (by simp[Value.isStrOf]),rfl,λB=>.tup (.inr ⟨_,_,_,l,rfl,rfl,Nat.le_of_lt (Nat.lt_of_le_of_lt (of_decide_eq_true f.1) (by decide)),r⟩) (i B)⟩
  ·have ih:=tl.find y;rw[List.lookup_cons,beq_eq_false_iff_ne.mpr e];have nf:Value.isStrOf y (Value.str x t)=false:=by
    rw[Bool.eq_false_iff];intro z;obtain⟨t',q⟩:=Value.isStrOf_shape z;injection q with q1;exact e q1.symm
   simp only[List.find?_cons,nf];exact ih
 |_,_,.flat (x:=x) (t:=t) (u:=u) (d:=d) hh f tl=>by
  by_cases e:y=x
  ·subst e;rw[List.lookup_cons_self];obtain⟨v,r1,_⟩:=kO (K:=K) (B:=λ_=>none) f;refine⟨_,v,List.find?_cons_of_pos (by simp[Value.isStrOf]),r1,λB=>?_⟩;obtain⟨v',Nu,i'⟩:=kO (K:=K) (B:=B) f;have:v'=v:=by have z1:=r1.abs;rw[Nu.abs]at z1;exact vK z1
   subst this;exact i'
  ·have ih:=tl.find y;rw[List.lookup_cons,beq_eq_false_iff_ne.mpr e];have nf:Value.isStrOf y (Value.str x t)=false:=by
    rw[Bool.eq_false_iff];intro z;obtain⟨t',q⟩:=Value.isStrOf_shape z;injection q with q1;exact e q1.symm
   simp only[List.find?_cons,nf];exact ih
def sV (K:PySem.W.Frag)(P:Params)(a:Addr)(aL:List (Str×D)):Prop:=∃es n,K.lookup a=some ⟨.type "dict",none,.dict es n,#[]⟩/\CRows K P es.toList aL/\(a == sysModules)=false
theorem const_dict {K:PySem.W.Frag}{P:Params}{y:Str}{a:Addr}{es:Array DictEntry}{n:Nat}{aL:List (Str×D)}(e:PySem.W.nsIn K mainGlobals y=some (some (.ref a)))(l:K.lookup a=some ⟨.type "dict",none,.dict es n,#[]⟩)(r:CRows K P es.toList aL)(s:(a == sysModules)=false):
  ∃a,PySem.W.nsIn K mainGlobals y=some (some (.ref a))/\sV K P a aL:=⟨a,e,es,n,l,r,s⟩
section
variable {X:Cx}{a b e:Expr}{pos:Pos}{x:Str}{p:Pos}
theorem sV.map {ae:List (Addr×Obj)}{σ:St}{H:Hp}{s:Shared}{d:Addr}{aL:List (Str×D)}(I:Inv X ae σ H s)(h:sV X.K X.w.params d aL):∃f:Str->Option Value,s.heap.MapOf (strKind X.prog X.w) d f/\(d == sysModules)=false /\
  ∀y,match aL.lookup y with|none=>f y=none|some dd=>∃u v,f y=some u/\ba v u/\∀B,Is X.K B v dd:=by
 obtain⟨es,n,l,r,sm⟩:=h;refine⟨_,PySem.W.mapOf_K I.kIn l r.lit,sm,λy=>?_⟩;have:=r.find y;have ff:findBy Value.isStrOf es y=(es.toList.find? λe=>Value.isStrOf y e.key).map (·.val):=by
  unfold findBy;obtain⟨es⟩:=es;rw[List.find?_toArray]
 cases hl:aL.lookup y with
 |none=>rw[hl]at this;dsimp only at this ⊢;rw[ff,this];rfl
 |some dd=>
  rw[hl]at this;obtain⟨en,v,e1,e2,e3⟩:=this;exact⟨en.val,v,by rw[ff,e1];rfl,e2,e3⟩
@[simp] noncomputable def W2 (aL:List (Str×D)):D->Option (D×Bool)
 |.str y=>(aL.lookup y).map λd=>(d,false)
 |_=>none
@[simp] noncomputable def Zg (aL:List (Str×D)):D->Option (D×Bool)
 |.str y=>some (.bl (aL.lookup y).isSome,false)
 |_=>none
@[simp] noncomputable def SF (aL:List (Str×D)):D->Option (D×Bool)
 |.str y=>some (.bl (!(aL.lookup y).isSome),false)
 |_=>none
@[simp] noncomputable def iJ:List D->Option (D×Bool)
 |[.lst ds]=>some (.lst ds,true)
 |[.tup ds]=>some (.lst ds,true)
 |_=>none
@[simp] noncomputable def g9:List D->Option (D×Bool)
 |[.lst ds]=>some (.tup ds,false)
 |[.tup ds]=>some (.tup ds,false)
 |_=>none
theorem EX:bP X (.type "list") (zM X.K iJ):=by
 refine bP.to u6 λxs H Q q=>?_;obtain⟨B,ds,d,bb,sB,i,ee,q⟩:=q;cases i with
 |nil=>simp[iJ]at ee
 |cons i1 i2=>
  cases i2 with
  |cons _ _=>cases i1<;>simp[iJ]at ee
  |nil=>
   cases i1<;>try (simp[iJ]at ee;done)
   ·rename_i l0 vs es h hl;simp only[iJ]at ee;cases ee
    refine⟨_,_,rfl,.inr (bo sB h),λl hp=>?_⟩;have xt:=Ext.laid (o:=.lst vs) sB hp;exact q _ _ _ xt (.lst (iF.of aE) (hl.mono xt.bn)) λ_=>⟨_,_,_,rfl,rfl,hp,aE,hl.mono xt.bn⟩
   ·rename_i l0 vs es h hl;simp only[iJ]at ee;cases ee
    refine⟨_,_,rfl,.inl (sB.seq h),λl hp=>?_⟩;have xt:=Ext.laid (o:=.lst vs) sB hp;exact q _ _ _ xt (.lst (iF.of aE) (hl.mono xt.bn)) λ_=>⟨_,_,_,rfl,rfl,hp,aE,hl.mono xt.bn⟩
theorem Bi:bP X (.type "tuple") (zM X.K g9):=by
 refine bP.to se λxs H Q q=>?_;obtain⟨B,ds,d,bb,sB,i,ee,q⟩:=q;cases i with
 |nil=>simp[g9]at ee
 |cons i1 i2=>
  cases i2 with
  |cons _ _=>cases i1<;>simp[g9]at ee
  |nil=>
   cases i1<;>try (simp[g9]at ee;done)
   ·rename_i l0 vs es h hl;simp only[g9]at ee;cases ee
    exact⟨_,_,rfl,.inr ⟨bo sB h,q.one sB (.tup h hl)⟩⟩
   ·rename_i l0 vs es h hl;simp only[g9]at ee;cases ee
    refine⟨_,_,rfl,.inl ⟨sB.seq h,λl hp=>?_⟩⟩;have xt:=Ext.laid (o:=.tup vs) sB hp;exact q _ _ _ xt (.tup (jf.of aE) (hl.mono xt.bn)) (by simp)
end
section
variable {X:Cx}{a b e:Expr}{pos:Pos}{x:Str}{p:Pos}
def EY (K:PySem.W.Frag)(n:Nat)(t:JV):TG:=λv σ H Q=>∃k a xs,v=.ref a/\zy k K H a xs/\xs.length=n/\t xs σ H Q
theorem M7 (hc:X.calm=true)(h:OM X es t)(hn:(assignEach es X.env).length=n:=by rfl)(jL:(assignEach es X.env).findIdx? (·.1)=none:=by rfl):PG X (.Tuple es kt pos) (EY X.K n t):=by
 intro ae s σ H v u Q I r hw;obtain⟨k,l,xs,rfl,hq,hl,hw⟩:=hw;cases r
 cases k with
 |false=>
  obtain⟨its,rv,ht,hz⟩:=I.tuple hq;refine assign_Tuple_tuple (I.ok.hd hc) ht (by simp[hn,←hl,rv.length]) jL λh' hx=>?_;have I1:Inv X ae σ H { s with heap:=h' }:=I.kept (t':=s.toks) λb o e=>hx b o (vS (vX e)) e;exact h ae _ σ H xs _ Q I1 (by simpa using rv) hw
 |true=>
  obtain⟨its,rv,ht,hz⟩:=I.list hq;rw[assign_Tuple];refine wX (wpAny_standAt ?_);unfold unpack;have hsz:(assignEach es X.env).length=its.toArray.size:=by simp[hn,←hl,rv.length]
  rw[hsz,jL];refine wX (wpAny_holding (PySem.W.kun_itemsOf (I.ok.hd hc) ht.isList λh' hx=>?_));have I1:Inv X ae σ H { s with heap:=h' }:=I.kept (t':=s.toks) λb o e=>hx b o (vS (vX e)) e;exact h ae _ σ H xs _ Q I1 (by simpa using rv) hw
@[simp] def xK (is:List Nat)(f:FE):FS:=λρ=>(f ρ).bind λx=>(gN x.1).bind λds=>(fO is ds (if bz ds=true then ρ else unown ρ)).map .nx
theorem EZ {K:PySem.W.Frag}{is:List Nat}{f:FE}{E:Ends}{σ:St}{H:Hp}(q:nw K (xK is f) E σ H):wU (tD K f) (EY K is.length (lE is)) E σ H:=by
 obtain⟨B0,H0,ρ,r,⟨N,s⟩,e,p⟩:=q;obtain⟨x,ex,e⟩:=oX e;obtain⟨ds,es,e⟩:=oX e;obtain⟨ρ',eρ,e⟩:=oY e;subst e;refine⟨N,ρ,x.1,x.2,s.ext.nh,s.rep,ex,λv H1 N1 x1 i1 _=>?_⟩;obtain⟨k,a,vs,rfl,sq,il⟩:=K6 i1 es;have s1:=s.grow x1;refine⟨k,a,vs,rfl,sq.same x1.nh,by rw[il.length];exact kQ eρ,?_⟩;by_cases hn:bz ds=true
 ·rw[if_pos hn]at eρ;exact kP s1 (s1.flats il hn) eρ λσ' s'=>p σ' H1 ⟨N1,s'⟩
 ·rw[if_neg hn]at eρ;exact kP s1.unown (il.mono λa o e=>by rw[cO nv];exact e) eρ λσ' s'=>p σ' H1 ⟨N1,s'⟩
theorem Iv (he:JE X e f)(hg:PG X (.Tuple es kt p2) (EY X.K is.length (lE is)))(hs:swapsWithSole [.Tuple es kt p2] e pos.line X.env=pure false:=by rfl)(hw:swappedStores [.Tuple es kt p2] e X.env=pure none:=by rfl)
  (h1:(assignEach [.Tuple es kt p2] X.env).map (·.2)=[assign (.Tuple es kt p2) X.env]:=by rfl):JS X (.Assign [.Tuple es kt p2] e pos) (xK is f):=PS.to (Ec he hg hs hw h1) λ_ _ _ q=>EZ q
@[simp] def CU (i:Nat)(fk fv:FE):FS:=λρ=>match ρ[i]? with
 |some (some (.lst ds,true))=>(fv ρ).bind λv=>(fk ρ).bind λk=>match k.1 with
  |.int j=>(C9 ds.length j).bind λn=>if bv v.1=true then some (.nx (ρ.set i (some (.lst (ds.set n v.1),true))))else none
  |_=>none
 |_=>none
theorem Fa (hv:JE X e fv)(hk:JE X k fk)(hN:X.N[i]? = some y:=by rfl)(AH:DY X.env.scope y:=by first|exact Or.inl rfl|exact Or.inr (Or.inl rfl)|exact Or.inr (Or.inr rfl))(hd:(y == ("__debug__" : Str))=false:=by decide)
  (jz:(y == ("__classdict__" : Str))=false:=by decide)
  (ha:∀v,assign (.Subscript (.Name y py) k pt) X.env v=(do
   let ov ←holding [v] (eval (.Name y py) X.env)
   let iv ←holding [v,ov] (eval k X.env)
   standAt pt
   holding [v,ov,iv] (setItem ov iv v)
   release [v,ov,iv] []):=by intro _;rfl)
  (hs:swapsWithSole [.Subscript (.Name y py) k pt] e pos.line X.env=pure false:=by rfl) (hw:swappedStores [.Subscript (.Name y py) k pt] e X.env=pure none:=by rfl)
  (h1:(assignEach [.Subscript (.Name y py) k pt] X.env).map (·.2)=[assign (.Subscript (.Name y py) k pt) X.env]:=by rfl):JS X (.Assign [.Subscript (.Name y py) k pt] e pos) (CU i fk fv):=by
 refine PS.to (Ec hv (LB (lA hN AH hd jz) hk El ha) hs hw h1) λE σ H q=>?_;obtain⟨B0,H0,ρ,r,⟨N,s⟩,ee,p⟩:=q;unfold CU at ee;split at ee
 ·rename_i ds ei;obtain⟨v,ev,ee⟩:=oX ee;obtain⟨kk,ek,ee⟩:=oX ee;obtain⟨kd,kb⟩:=kk;cases kd with
  |int j=>
   dsimp only at ee;obtain⟨n,en,ee⟩:=oX ee;split at ee
   ·rename_i hn;cases ee
    refine⟨N,ρ,v.1,v.2,s.ext.nh,s.rep,ev,λv1 H1 N1 x1 i1 _=>?_⟩;have s1:=s.grow x1;obtain⟨l,vs,JB,z,h1,h2,h3,h4⟩:=s1.owL i _ ei;cases z
    refine⟨_,h1,N1,ρ,_,_,s1.ext.nh,s1.rep,ek,λkv H2 N2 x2 i2 _=>?_⟩;cases i2
    have s2:=s1.grow x2;obtain⟨l',RD,JB,z,k1,k2,k3,k4⟩:=s2.owL i _ ei;cases z
    rw[h1]at k1;cases k1;exact⟨l,RD,j,n,rfl,rfl,s2.ext.nh _ _ k2,by rw[k4.length];exact en,p σ _ ⟨_,s2.write ei h1 (IsL.set (s2.flat (i1.mono x2.bn) hn) n k4)⟩⟩
   ·cases ee
  |_=>cases ee
 ·cases ee
@[simp] noncomputable def W3 (i:Nat)(g:List D->Option (List D)):FS:=λρ=>match ρ[i]? with
 |some (some (.lst ds,true))=>(g ds).map λes=>.nx (ρ.set i (some (.lst es,true)))
 |_=>none
@[simp] def W4 (i:Nat)(f:FE):FS:=λρ=>match ρ[i]? with
 |some (some (.lst ds,true))=>(f ρ).bind λx=>match x.1 with
  |.lst es=>if x.2=true/\bz es=true/\ds.length+es.length<=sizeLine then some (.nx (ρ.set i (some (.lst (ds++es),true))))else none
  |_=>none
 |_=>none
@[simp] noncomputable def Ad:List D->Option (D×Bool)
 |[.int i]=>some (.int i,false)
 |[.bl b]=>some (.int (if b then 1 else 0),false)
 |_=>none
theorem PH:bP X (.type "int") (zM X.K Ad):=by
 refine bP.to C6 λxs H Q q=>?_;obtain⟨B,ds,d,bb,sB,i,ee,q⟩:=q;cases i with
 |nil=>simp[Ad]at ee
 |cons i1 i2=>
  cases i2 with
  |cons _ _=>cases i1<;>simp[Ad]at ee
  |nil=>
   cases i1<;>try (simp[Ad]at ee;done)
   ·simp only[Ad]at ee;cases ee
    exact .inr ⟨_,rfl,q.one sB (.int _)⟩
   ·simp only[Ad]at ee;cases ee
    exact .inl ⟨_,rfl,q.one sB (.int _)⟩
end
open AutoSeq1 (wpAny_loadPart')
set_option maxRecDepth 100000
noncomputable def UM (k:Bool):String:=if k=true then "list" else "tuple"
theorem xL (k:Bool)(l:Addr)(items:Array Value)(n:Nat)(Nv:Option Addr)(sl:Array (Option Value)):
  Meets (Builtin.«enumerate.__new__» ⟨[.type "enumerate",.ref l],[]⟩) (λ_ R s=>s.heap.get? l=some { cls:=.type (UM k),dict:=Nv,data:=.seq items n,slots:=sl } /\
   R (.ok (.ret (.ref (s.heap.push (M4 k l)).objs.size))) { s with heap:=(s.heap.push (M4 k l)).push { cls:=.type "enumerate",data:=.fields #[.none,.bool false,.ref s.heap.objs.size,rawInt 0,.none,.none] } }) :=
 .of_wp λprog w A R s hs=>by
  obtain⟨hp,g,d,tk,os⟩:=s;obtain⟨hl,hs⟩:=hs;have GH:=sub_enumerate;have hL:zx k (Shared.heap ⟨hp,g,d,tk,os⟩) l items:=by cases k<;>exact⟨_,hl,rfl,n,rfl⟩
  wp_walk using wpAny_loadPart' hl;refine wpAny_stack_any λst=>wY ?_;split
  ·rename_i c _ _ _ _ _;cases (c == Value.type "enumerate")
   ·wp_walk using wpAny_loadPart' hl,vg hL;exact⟨_,rfl,hs⟩
   ·wp_walk using wpAny_loadPart' hl,vg hL;exact⟨_,rfl,hs⟩
  ·wp_walk using wpAny_loadPart' hl,vg hL;exact⟨_,rfl,hs⟩
section
variable {prog:Program}{w:World}{A:Around}{E:Value->Shared->Prop}{s:Shared}
theorem Fb (hL:zx k s.heap l items)
  (q:∀h',IsEnum h' (s.heap.objs.size+1) s.heap.objs.size 0 .none->Bh k h' s.heap.objs.size l 0->(∀b o,s.heap.get? b=some o->h'.get? b=some o)->Q (.ref (s.heap.objs.size+1)) { s with heap:=h' }):
  wpAny (model prog w) A (call (.type "enumerate") [.ref l]) Q E s:=by
 have hh:∃(Nv:Option Addr)(sl:Array (Option Value))(n:Nat),s.heap.get? l=some { cls:=.type (UM k),dict:=Nv,data:=.seq items n,slots:=sl }:=by
  cases k<;>(obtain⟨⟨c,Nv,dt,sl⟩,hl,hc,n,hd⟩:=hL;dsimp only at hc hd;subst hc;subst hd;exact⟨Nv,sl,n,hl⟩)
 obtain⟨Nv,sl,n,hl⟩:=hh;refine callType_new PySem.F.called_enumerate (by decide) (PySem.F.typeCall_enumerate_1 _) (PySem.F.newCall_enumerate_1 _) (λobj=>PySem.F.args_object_init_2 obj _) PySem.F.entry_enumerate_new (xL k l items n Nv sl) ⟨hl,?_⟩;have n1:(s.heap.push (M4 k l)).objs.size=s.heap.objs.size+1:=Heap.size_push ..;have g2:((s.heap.push (M4 k l)).push { cls:=.type "enumerate",data:=.fields #[.none,.bool false,.ref s.heap.objs.size,rawInt 0,.none,.none] }).get? (s.heap.push (M4 k l)).objs.size=some _:=vY _ rfl;have g1:((s.heap.push (M4 k l)).push { cls:=.type "enumerate",data:=.fields #[.none,.bool false,.ref s.heap.objs.size,rawInt 0,.none,.none] }).get? s.heap.objs.size=some _:=vZ _ (vY _ (by cases k<;>rfl))
 rw[n1]at g2;show _/\_;rw[n1];refine⟨⟨_,g2,rfl⟩,q _ g2 ?_ λb o e=>vZ _ (vZ _ e)⟩;cases k<;>exact⟨_,g1,rfl,rfl⟩
theorem M8 (hA:A.handled=none)(it l:Addr)(oM:l≠it)(items:Array Value):Draws prog w A it [it,l] items.size (λi v=>items[i]? = some v) (λi h=>Bh k h it l i/\zx k h l items) where
 live:=λi h st=>let ⟨o,e,_⟩:=st.1.ob;⟨o,e⟩
 frame:=λi h h' st kk=>⟨st.1.upon λo e=>kk it (by simp) o e,st.2.upon λo e=>kk l (by simp) o e⟩
 item:=λi s Q E hi st q=>CT st.1 st.2 (v:=items[i]) (by simp[hi]) λh' jS sb=>q _ h' s.toks (by simp[hi]) ⟨jS,st.2.upon λo e=>sb.extBut _ _ oM e⟩ sb
 done:=λs Q E st q=>xJ hA st.1 st.2 (by simp) q
theorem M9 (hA:A.handled=none)(it l:Addr)(items:Array Value)(n:Nat)(hn:items[n]? = none):Draws prog w A it [it,l] n (λ_ _=>True) (λi h=>(Bh k h it l i/\zx k h l items)/\i=n) where
 live:=λi h st=>let ⟨o,e,_⟩:=st.1.1.ob;⟨o,e⟩
 frame:=λi h h' st kk=>⟨⟨st.1.1.upon λo e=>kk it (by simp) o e,st.1.2.upon λo e=>kk l (by simp) o e⟩,st.2⟩
 item:=λi s Q E hi st q=>absurd st.2 (vS hi)
 done:=λs Q E st q=>xJ hA st.1.1 st.1.2 hn q
end
noncomputable def SG (K:PySem.W.Frag)(k:Bool)(a:Addr):It :=
  ⟨λi H=>∃xs x,zy k K H a xs/\xs[i]? = some x,
   λi H v H'=>∃T x,v=.ref T/\H T=none/\H'=upd H T (.tup [.int i,x])/\∀xs,zy k K H a xs->xs[i]? = some x,
   λi H=>∃xs,zy k K H a xs/\xs.length<=i⟩
theorem CV {P:Program}{w:World}{K:PySem.W.Frag}{es:List Expr}{kt:Nat}{pt:Pos}{k:Bool}{a e it:Addr}(TB:e≠it)(X0:a≠e)(X1:a≠it):
  Turn P w K (.Tuple es kt pt) (SG K k a) [e,it] e (λi h=>(∃Lc,IsEnum h e it i Lc)/\Bh k h it a i) where
 mem:=by simp
 obj:=λi h st b hb=>by
  obtain⟨⟨Lc,he⟩,t1⟩:=st;simp at hb;rcases hb with rfl|rfl
  ·exact⟨_,he,λv z=>by cases z⟩
  ·exact t1.ob
 keep:=λi h h' st kk=>by
  obtain⟨⟨Lc,he⟩,t1⟩:=st;exact⟨⟨Lc,kk e (by simp) _ he⟩,t1.upon λo q=>kk it (by simp) o q⟩
 item:=by
  intro X hP hw hK hc i ae s σ H E I hf st hg;subst hP hw hK;obtain⟨⟨Lc,he⟩,t1⟩:=st;obtain⟨xs,x,q1,hx⟩:=hg;obtain⟨its,r1,p1,z1⟩:=q1.vals I;obtain⟨u,hu,ru⟩:=r1.get hx;have fresh:H s.heap.objs.size=none:=I.hok.fresh (vT _);have X2:i<its.toArray.size:=by rw[vH];exact(vV hu).1
  have DU:e≠s.heap.objs.size:=vS (vX he);have RI:it≠s.heap.objs.size:=by obtain⟨o,q,_⟩:=t1.ob;exact vS (vX q)
  refine wpAny_pyNext_enum_itemD (M8 (A:=X.A.in1) (I.ok.hd hc) it a X1 its.toArray) he ⟨t1,p1⟩ X2 TB (by simp[TB,X0.symm]) λv h' tk hv ho jS hT hsz hk=>?_;have ev:v=u:=by
   have V1:its[i]? = some v:=by simpa using hv
   rw[hu]at V1;exact(vK V1).symm
  subst ev;refine⟨_,rfl,wpAny_letOwnedTupleGo_enum (s:={ s with heap:=h',toks:=tk+1 }) ho λh2 Op s2=>?_⟩;have Oq:Heap.SameBut e h' h2:=s2;have kk:∀b o,b∉[e,it]->s.heap.get? b=some o->h2.get? b=some o:=λb o hb q=>Oq.extBut _ _ (λz=>hb (by simp[z])) (hk b o (λz=>hb (by simp[z])) (λz=>hb (by simp[z])) q);have new:bO X.prog X.w (upd H s.heap.objs.size (.tup [.int i,x])) h2 s.heap.objs.size (.tup [.int i,x]):=⟨by show 2<=sizeLine;decide,[.int i tk,v],.cons ⟨tk,rfl⟩ (.cons ru .nil),⟨_,Oq.extBut _ _ DU.symm hT,rfl,_,rfl⟩⟩;refine⟨.ref s.heap.objs.size,upd H s.heap.objs.size (.tup [.int i,x]),K5 (s:=s) (t':=tk+1) I hf kk (vT _) new,rfl,⟨_,x,rfl,fresh,rfl,λzs hq=>by rw[zy.inj I hq q1];exact hx⟩,?_,λb hb=>?_⟩
  ·exact⟨⟨_,by have:=Op;rw[show((i:Int)+1)=((i+1:Nat):Int) by omega]at this;exact this⟩,jS.1.upon λo q=>Oq.extBut _ _ TB.symm q⟩
  ·have oM:b≠s.heap.objs.size:=by
    simp at hb;rcases hb with rfl|rfl
    ·exact DU
    ·exact RI
   rw[aI oM];exact(hf b hb).1
 done:=by
  intro X hP hw hK hc i ae s σ H E I hf st hg;subst hP hw hK;obtain⟨⟨Lc,he⟩,t1⟩:=st;obtain⟨xs,q1,hl⟩:=hg;obtain⟨its,r1,p1,z1⟩:=q1.vals I;have n1:=r1.length;refine wpAny_pyNext_enum_endD (M9 (A:=X.A.in1) (I.ok.hd hc) it a its.toArray i (by simp;omega)) he ⟨⟨t1,p1⟩,rfl⟩ λh' hk=>⟨rfl,?_⟩;exact pi (t':=s.toks) I hf λb o hb q=>hk b o (λz=>hb (by simp[z])) q
 self:=λ_ _ _ _ _ st h=>let ⟨⟨_,he⟩,_⟩:=st;wpAny_pyIter_enum he h
section
variable {X:Cx}{a b e:Expr}{pos:Pos}{p:Pos}
theorem xM:bootBuiltins "enumerate" = some (.type "enumerate"):=by decide +kernel
noncomputable def sW (ds:List D):List D:=ds.mapIdx λi d=>.tup [.int i,d]
@[simp] def Fc (fa:FE):FA:=λρ=>(fa ρ).bind λx=>(gN x.1).map sW
theorem Iw {K:PySem.W.Frag}{N:Hp}{k:Bool}{l:Addr}{vs:List V}{ds:List D}(h1:zy k K N l vs)(i1:IsL K N vs ds):pD K (SG K k l) N (sW ds):=by
 intro i H' sm;have n1:=i1.length;refine⟨λd ed=>?_,λhl=>⟨vs,h1.same sm,?_⟩⟩
 ·unfold sW at ed;rw[List.getElem?_mapIdx]at ed;obtain⟨x,e1,rfl⟩:=oY ed;obtain⟨v,ev,iv⟩:=i1.get e1;refine⟨⟨vs,v,h1.same sm,ev⟩,λr H2 hy=>?_⟩;obtain⟨T,v',rfl,hT,rfl,f1⟩:=hy;have e3:=f1 vs (h1.same sm);rw[ev]at e3;cases e3;have xt:=Ext.laid (o:=.tup [.int i,v]) sm hT;exact⟨_,xt,.tup (jf.of aE) (.cons (.int _) (.cons (iv.mono xt.bn) .nil))⟩
 ·unfold sW at hl;rw[List.length_mapIdx]at hl;omega
theorem Ix {es:List Expr}{kt:Nat}{pt:Pos}{fa:FE}(hm:X.mg "enumerate" = none)(ha:JE X a fa)(hg:Gl X "enumerate":=by rfl)(hs:starEach [a] X.env=[(false,eval a X.env)]:=by rfl):
  JI X (.Tuple es kt pt) (.Call (.Name "enumerate" p) [a] [] pos) (Fc fa):=by
 intro ae s σ H R I q;refine Call_ (lB I hg hm xM (PyProof.Rows.callWith_type1 (cV (ah ha am hs pos ae s σ H (λvs H1=>∃(k:Bool)(l:Addr)(us:List V),vs=[.ref l]/\zy k X.K H1 l us/\R (SG X.K k l) H1) I ?_) λus s1 ⟨vs,H1,I1,r1,q1⟩=>?_) hs rfl))
 ·obtain⟨B,ρ,ds,sB,r,ee,q⟩:=q;obtain⟨x1,ex,ee⟩:=oX ee;obtain⟨xs,X3,ee⟩:=oY ee;subst ee;refine⟨B,ρ,[x1.1],sB,r,by simp[af,ai,ex],λvs H1 N1 xt i1=>?_⟩;cases i1 with
  |cons j1 j2=>
   cases j2
   obtain⟨k1,l1,us,rfl,s1,m1⟩:=K6 j1 X3;exact⟨k1,l1,us,rfl,s1.same xt.nh,q _ H1 N1 xt (Iw s1 m1)⟩
 ·obtain⟨k,l,ws,rfl,h1,q⟩:=q1;obtain⟨u1,rfl,X4⟩:=r1.one;cases X4
  obtain⟨its,v1,p1,z1⟩:=h1.vals I1;have R3:=p1.lt;refine Fb p1 λh' c1 c2 ck=>?_;refine wpAny_pyIter_enum c1 ⟨s1.heap.objs.size+1,[s1.heap.objs.size+1,s1.heap.objs.size],_,_,H1,rfl,I1.kept (t':=s1.toks) ck,
   CV (Nat.succ_ne_self _) (vS (Nat.lt_succ_of_lt R3)) (vS R3),⟨⟨_,c1⟩,c2⟩,λb hb=>?_,q⟩
  have JH:s1.heap.objs.size<=b:=by
   simp at hb;rcases hb with rfl|rfl
   ·exact Nat.le_succ _
   ·exact vT _
  exact I1.fpOk JH (I1.hok.fresh JH)
end
end DL
namespace DL
open PySem PySem.Spec PyProof.Rows
theorem CW (t:SetTable)(es:Array (Int×Value))(n:Nat):(relayAll t es n).2.1.led=t.led:=by
 unfold relayAll;split
 ·rename_i t' order h;unfold SetTable.relaid SetTable.laid at h;obtain⟨ow,_,h⟩:=oX h;cases h
  dsimp only;split<;>rfl
 ·rfl
theorem xN (t:SetTable)(es:Array (Int×Value))(n:Nat)(hp:t.plain=false):(relayAll t es n).2.1.plain=false:=by
 unfold relayAll;split
 ·rename_i t' order h;unfold SetTable.relaid SetTable.laid at h;obtain⟨ow,_,h⟩:=oX h;cases h
  dsimp only;split
  ·exact hp
  ·rfl
 ·rfl
theorem Iy (t:SetTable)(es:Array (Int×Value))(h:Int)(x:Value):(layNew t es h x).2.1.led=t.led:=by
 unfold layNew;split
 ·dsimp only[SetTable.put,SetTable.orStandIn];repeat' (first|rfl|split)
 ·rfl
structure TabT (w:World)(es:Array (Int×Value))(t:SetTable):Prop where
 fits:t.fits es.size=true
 led:t.led = !w.params.followText "set-order"
 plain:es.size≠0->t.plain=false
def iW (prog:Program)(w:World)(h:Heap)(a:Addr)(ts:List Str):Prop :=
 ∃o es ep t,h.get? a=some o/\o.ExactSet/\o.data=.set es ep t/\ElemsOf (PySem.strKind prog w) es.toList/\(es.toList.map (λe=>strOf e.2)).Perm ts/\ts.Nodup/\ts.length<scanBound/\TabT w es t
noncomputable def jT (ts:List Str)(x:Str):List Str:=if x∈ts then ts else ts++[x]
theorem Fd (ts:List Str)(x:Str):(jT ts x).length<=ts.length+1:=by unfold jT;split<;>simp
theorem xO (h:Value.isStrOf k v=true):strOf v=k:=by obtain⟨t,rfl⟩:=Value.isStrOf_shape h;rfl
section
variable {prog:Program}{w:World}{A:Around}{E:Value->Shared->Prop}{s:Shared}
theorem sX {es:Array (Int×Value)}{ts:List Str}(DU:ElemsOf (PySem.strKind prog w) es.toList)(hp:(es.toList.map (λe=>strOf e.2)).Perm ts)(k:Str):k∈ts ↔ ∃e∈es.toList,(PySem.strKind prog w).is k e.2=true:=by
 rw[←hp.mem_iff,List.mem_map];constructor
 ·rintro⟨e,he,rfl⟩;obtain⟨⟨k',hk,_⟩,_⟩:=DU e he;have fG:Value.isStrOf k' e.2=true:=hk;refine⟨e,he,?_⟩;show Value.isStrOf (strOf e.2) e.2=true;rw[xO fG];exact fG
 ·rintro⟨e,he,hk⟩;exact⟨e,he,xO hk⟩
theorem sY {h:Heap}{a:Addr}{o:Obj}{es:Array (Int×Value)}{ep:Nat}{t:SetTable}(ho:h.get? a=some o)(hd:o.data=.set es ep t)(DR:Array (Int×Value))(t':SetTable):
  (h.update a (Obj.putSet DR t')).get? a=some { o with data:=.set DR (ep+1) t' }:=by
 have:=Heap.get?_update_self (Obj.putSet DR t') ho (by rw[putSet_of DR t' hd];rfl);rw[putSet_of DR t' hd]at this;exact this
theorem xP {g:Bool->Sem Unit}(hg:∀(b:Bool)(s₁:Shared)(Q':Unit->Shared->Prop),Q' () s₁->wpAny (model prog w) A (g b) Q' E s₁)
  {a:Addr}{o:Obj}{es:Array (Int×Value)}{ep:Nat}{t:SetTable}(ho:s.heap.get? a=some o) (JJ:o.ExactSet) (hd:o.data=.set es ep t)
  {nn:Array (Int×Value)}{t2:SetTable}{ts:List Str}(GI:ElemsOf (PySem.strKind prog w) nn.toList) (Ot:(nn.toList.map (λe=>strOf e.2)).Perm ts) (nd:ts.Nodup)
  (hb1:ts.length<scanBound) (X5:t2.fits nn.size=true) (AI:t2.led = !w.params.followText "set-order") (lz:t2.plain=false) {zm:Bool}{R:Option Bool->Shared->Prop}
  (h:∀h',Heap.SameBut a s.heap h'->iW prog w h' a ts->R (some true) { s with heap:=h' }):
  wpAny (model prog w) A (do
    storeSet a nn t2
    if(!zm && t2.tooFull)=true then do
      g (relayAll t2 nn (SetTable.grown nn.size)).2.2
      storeSet a (relayAll t2 nn (SetTable.grown nn.size)).1 (relayAll t2 nn (SetTable.grown nn.size)).2.1
      pure (some true)
     else pure (some true)) R E s:=by
 have V2:nn.size=ts.length:=by rw[←Ot.length_eq,vI,vG]
 refine wX (wpAny_storeSet_of ho hd ?_ (fits_of_scanBound (by rw[V2];exact hb1)));have JL:=sY ho hd nn t2;have Q5:=vW s.heap a (Obj.putSet nn t2);split
 ·have hp:=relayAll_perm t2 nn (SetTable.grown nn.size);have Q6:=relayAll_fits t2 nn (SetTable.grown nn.size);have JH:=CW t2 nn (SetTable.grown nn.size);have TC:=xN t2 nn (SetTable.grown nn.size) lz;generalize hRl:relayAll t2 nn (SetTable.grown nn.size)=Rl at hp Q6 JH TC ⊢;obtain⟨RJ,t3,V3⟩:=Rl;dsimp only at hp Q6 JH TC ⊢;have TD:ElemsOf (PySem.strKind prog w) RJ.toList:=GI.perm hp;have hsz:RJ.size=nn.size:=by rw[←vG,hp.length_eq,vG]
  refine wX (hg _ _ _ ?_);refine wX (wpAny_storeSet_of JL rfl ?_ (fits_of_scanBound (by rw[hsz,V2];exact hb1)));have J6:=sY JL rfl RJ t3;exact wY (h _ (Q5.trans (vW _ a _)) ⟨_,RJ,_,t3,J6,JJ,rfl,TD,(hp.map _).trans Ot,nd,hb1,Q6,JH.trans AI,λ_=>TC⟩)
 ·exact wY (h _ Q5 ⟨_,nn,_,t2,JL,JJ,rfl,GI,Ot,nd,hb1,X5,AI,λ_=>lz⟩)
theorem Ae {a:Addr}{ts:List Str}{k:Str}{tk:Tok}{Q:Bool->Shared->Prop}(hS:iW prog w s.heap a ts)(GJ:ts.length+1<scanBound)
  (h:∀b h',Heap.SameBut a s.heap h'->iW prog w h' a (jT ts k)->Q b { s with heap:=h' }):
  wpAny (model prog w) A (setAddHashed a (.str k tk) ((PySem.strKind prog w).hash k)) Q E s:=by
 have hS0:=hS;obtain⟨o,es,ep,t,ho,JJ,hd,DU,wG,nd,hb,hf,JM,lz⟩:=hS;have DB:(PySem.strKind prog w).is k (.str k tk)=true:=strKind_is prog w k tk;have sz:es.size=ts.length:=by rw[←wG.length_eq,vI,vG]
 unfold setAddHashed setAddHashedIn;refine wpAny_holding (wX (wpAny_setState_of ho hd hf ?_));dsimp only;rw[byScan_of (x:=.str k tk) rfl (by rw[sz];exact hb) DU];simp only[↓reduceIte];unfold setAddByScan;refine wX ?_;refine wX (wpAny_rule ?_);refine wX (wpAny_setScan_of DB ho hd hf DU ?_);cases hr:List.findIdx? (λe=>(PySem.strKind prog w).is k e.2) es.toList with
 |some j=>
  dsimp only;obtain⟨hj,X6,_⟩:=List.findIdx?_eq_some_iff_getElem.mp hr;have hm:k∈ts:=(sX DU wG k).mpr ⟨es.toList[j],List.getElem_mem hj,X6⟩;refine wY (wY ?_);have e:jT ts k=ts:=by unfold jT;rw[if_pos hm]
  exact h false s.heap (Heap.SameBut.refl a s.heap) (by rw[e];exact hS0)
 |none=>
  dsimp only;have hm:k∉ts:=λz=>by
   obtain⟨e,he,hp⟩:=(sX DU wG k).mp z;have:=List.findIdx?_eq_none_iff.mp hr e he;rw[hp]at this;exact Bool.noConfusion this
  have ea:jT ts k=ts++[k]:=by unfold jT;rw[if_neg hm]
  have X7:∀(b:Bool){s₁:Shared}{Q':Unit->Shared->Prop},Q' () s₁->wpAny (model prog w) A (match b with|true=>rule "set.scan.the-table-gave-way" | false=>pure ()) Q' E s₁ :=
   λb s₁ Q' hq=>by cases b<;>first|exact wY hq|exact wpAny_rule hq
  have gI:=layNew_perm t es ((PySem.strKind prog w).hash k) (.str k tk);have Cr:=layNew_fits t es ((PySem.strKind prog w).hash k) (.str k tk);have Ld:=Iy t es ((PySem.strKind prog w).hash k) (.str k tk);generalize hL:layNew t es ((PySem.strKind prog w).hash k) (.str k tk)=L at gI Cr Ld ⊢;obtain⟨nn,t1,zm,TF⟩:=L;dsimp only at gI Cr Ld ⊢;rw[Array.toList_push]at gI;have GI:ElemsOf (PySem.strKind prog w) nn.toList:=(DU.push DB rfl).perm gI;have Ot:(nn.toList.map (λe=>strOf e.2)).Perm (ts++[k]):=(gI.map _).trans (by rw[uW];exact wG.append_right _);have V4:(ts++[k]).Nodup:=by
   rw[List.nodup_append];refine⟨nd,by simp,λx hx y hy=>?_⟩;rw[List.mem_singleton]at hy;subst hy;exact λz=>hm (z ▸ hx)
  have hb1:(ts++[k]).length<scanBound:=by rw[uZ];exact GJ
  refine wX (X7 _ ?_);have Q7:∀h',Heap.SameBut a s.heap h'->iW prog w h' a (ts++[k])->Q true { s with heap:=h' }:=λh' hsb DJ=>h true h' hsb (by rw[ea];exact DJ);split
  ·refine wX ?_;rw[hashByValue_scannable 8 (x:=.str k tk) rfl];refine wY ?_;refine xP ?_ ho JJ hd GI Ot V4 hb1 ?_ ?_ ?_ ?_
   ·intro b s₁ Q' hq;cases b<;>first|exact wY hq|exact wpAny_rule hq
   ·exact SetTable.fits_plain_off Cr
   ·exact Ld.trans JM
   ·rfl
   ·intro h' hsb DJ;dsimp only;exact wY (Q7 h' hsb DJ)
  ·rename_i Ou;refine wX (wY ?_);simp only[↓reduceIte];refine xP ?_ ho JJ hd GI Ot V4 hb1 Cr (Ld.trans JM) (by simpa using Ou) ?_
   ·intro b s₁ Q' hq;cases b<;>first|exact wY hq|exact wpAny_rule hq
   ·intro h' hsb DJ;dsimp only;exact wY (Q7 h' hsb DJ)
end
noncomputable def iH (ss:List Str):List Str:=ss.foldl jT []
theorem Af (h:ts.Nodup)(x:Str):(jT ts x).Nodup:=by
 unfold jT;split
 ·exact h
 ·rename_i hm;rw[List.nodup_append];refine⟨h,by simp,λy hy z hz=>?_⟩;rw[List.mem_singleton]at hz;subst hz;exact λe=>hm (e ▸ hy)
theorem xQ:y∈jT ts x↔y∈ts∨y=x:=by
 unfold jT;split
 ·rename_i hm;exact⟨.inl,λz=>z.elim id λe=>e ▸ hm⟩
 ·simp
theorem vh (ss:List Str):∀ts:List Str,(ss.foldl jT ts).length<=ts.length+ss.length:=by
 induction ss with
 |nil=>intro ts;simp
 |cons x r ih=>intro ts;rw[List.foldl_cons];have:=ih (jT ts x);have:=Fd ts x;simp only[vE];omega
theorem pM (ss:List Str):(iH ss).length<=ss.length:=by have:=vh ss [];simpa [iH]using this
theorem CY (ss:List Str)(x:Str):iH (ss++[x])=jT (iH ss) x:=by unfold iH;rw[List.foldl_append];rfl
theorem StrsAre.at:∀ {vs:List Value}{ss:List Str},StrsAre vs ss->∀(i:Nat)(v:Value),vs[i]? = some v->∃x t,v=.str x t/\ss[i]? = some x
 |_,_,.nil,i,v,h=>by simp at h
 |_,_,.cons x t hr,0,v,h=>by simp at h;exact⟨x,t,h.symm,rfl⟩
 |_,_,.cons x t hr,i+1,v,h=>by
  simp only[List.getElem?_cons_succ]at h;exact StrsAre.at hr i v h
theorem iW.at (x:iW prog w h a ts)(k:∀o,h.get? a=some o->h'.get? a=some o):iW prog w h' a ts:=by
 obtain⟨o,es,ep,t,ho,r⟩:=x;exact⟨o,es,ep,t,k o ho,r⟩
section
variable {prog:Program}{w:World}{A:Around}{R:Result->Shared->Prop}{I:Addr}{fp wr:List Addr}{G:Array GenState->Array GenState->Prop}{n:Nat}{P:Nat->Value->Prop}{St:Nat->Shared->Prop}
theorem vi (W:WalksS prog w A.in1 I fp wr G n P St)(S:Addr)(Nw:S∉fp)(ss:List Str)(hn:ss.length=n)
  (Nx:∀i v,P i v->∃x t,v=.str x t/\ss[i]? = some x) (hb:n+1<scanBound):
  ∀(k i:Nat)(s:Shared),n - i=k->i<=n->St i s->iW prog w s.heap S (iH (ss.take i)) ->
   (∀s',Moved (S::wr) G s s'->iW prog w s'.heap S (iH ss)->R (.ok (.ret .none)) s') ->
   codeAny (model prog w) A (.builtin "set.update.loop" ⟨[.ref S,.ref I],[]⟩) R s:=by
 have V5:S∉wr:=λh=>Nw (W.sub _ h);have GH:∀b∈wr,b∈S::wr:=λb hb=>mZ _ hb;intro k;induction k with
 |zero=>
  intro i s hk hi jL hS hR;have DV:i=n:=by omega
  subst DV;refine codeAny_builtin PyProof.Rows.F.entry_set_update_loop ?_;rw[Around.under_plainId PyProof.Rows.F.plain_set_update_loop _];show wpAny _ A.in1 (pyNext (.ref I)>>=_) _ _ s;refine wX (W.done s _ _ jL λs' hm=>?_);show wpAny _ A.in1 (ret Value.none) _ _ s';refine wY (hR s' (hm.mono GH) ?_);rw[List.take_of_length_le (by omega)]at hS;exact hS.at λo e=>hm.heap S _ V5 e
 |succ k ih=>
  intro i s hk hi jL hS hR;have fR:i<n:=by omega
  refine codeAny_builtin PyProof.Rows.F.entry_set_update_loop ?_;rw[Around.under_plainId PyProof.Rows.F.plain_set_update_loop _];show wpAny _ A.in1 (pyNext (.ref I)>>=_) _ _ s;refine wX (W.item i s _ _ fR jL λv s' hP hst' hm=>?_);obtain⟨x,t,rfl,hx⟩:=Nx i v hP;have DJ:iW prog w s'.heap S (iH (ss.take i)):=hS.at λo e=>hm.heap S _ V5 e;show wpAny _ A.in1 (holding [Value.str x t] (setAdd S (.str x t))>>=_) _ _ s';refine wX (wpAny_holding ?_);unfold setAdd;refine wpAny_holding ?_;refine wX ((PySem.strKind prog w).pyHash (k:=x) (strKind_is prog w x t) ?_);have hl:(iH (ss.take i)).length+1<scanBound:=by have:=pM (ss.take i);rw[List.length_take]at this;omega
  refine Ae (s:={ s' with toks:=s'.toks+1 }) DJ hl λb h' hsb Q8=>?_;have X8:iW prog w h' S (iH (ss.take (i+1))):=by
   rw[List.take_add_one,hx,Option.toList_some,CY];exact Q8
  refine wY ⟨plainId_quiet PyProof.Rows.F.plain_set_update_loop _,ih (i+1) _ (by omega) fR (W.frame _ s' _ _ hst' (Nat.le_succ _) λb hb o e=>?_) X8 λsx hm'' hS''=>?_⟩
  ·rw[hsb.2 b (λh:b=S=>Nw (by rw[←h];exact hb))];exact e
  ·refine hR sx (Moved.trans W.gtrans ((hm.mono GH).then_heap (Nat.le_succ _) λb o hb e=>?_) hm'') hS'';rw[hsb.2 b (λh:b=S=>hb (by rw[h];exact mX))];exact e
end
section
variable {prog:Program}{w:World}{A:Around}{E:Value->Shared->Prop}{s:Shared}
noncomputable abbrev eW (w:World):Obj:={ cls:=.type "set",dict:=none,data:=.set #[] 0 (.fresh 0 0 (!w.params.followText "set-order")) }
theorem xR (a:Value) 
  (h:Q₁ (.ref s.heap.objs.size) { s with heap:=s.heap.push (eW w) }):
  codeAny (model prog w) A (.call (.builtin "set.__new__") ⟨[.type "set",a],[]⟩) (wants Q₁ E) s:=by
 refine codeAny_of_tree ?_;show wpAny _ A.in1 (do checkBuiltinCall "set.__new__" ⟨[.type "set",a],[]⟩;again (.builtin "set.__new__" ⟨[.type "set",a],[]⟩)) _ _ s;refine wX (wpAny_of_eq (PySem.F.newCall_set_1 a) (wY ⟨plainId_quiet PySem.F.plain_set_new _,codeAny_builtin PySem.F.entry_set_new ?_⟩));rw[Around.under_plainId PySem.F.plain_set_new _];unfold Builtin.«set.__new__» Builtin.Frozenset.newClass;have GH:=sub_set_self;obtain⟨hp,g,d,tk,os⟩:=s;dsimp only;wp_walk;refine wpAny_askSetting (wY ?_);dsimp only;simp only[newObj];refine wX (wpAny_alloc (wY ?_));exact wY h
set_option maxHeartbeats 3200000 in
theorem pN 
  (hh:A.handled=none) (hl:s.heap.IsList l items) (hi:StrsAre items.toList ss) (hb:items.size+1<scanBound)
  (h:∀(h':Heap)(tk:Nat),iW prog w h' s.heap.objs.size (iH ss) ->
   (∀b o,b<s.heap.objs.size->s.heap.get? b=some o->h'.get? b=some o)->Q (.ref s.heap.objs.size) { s with heap:=h',toks:=tk }):
  wpAny (model prog w) A (call (.type "set") [.ref l]) Q E s:=by
 obtain⟨c,tl,X9⟩:=PySem.F.called_set.mro;have V6:=PySem.F.called_set.made;have GH:=PySem.F.called_set.sub;refine wpAny_call (codeAny_of_tree ?_);show wpAny _ _ (callAny (.type "set") _) _ _ _;refine wY ⟨Code.quiet_builtin _ (by decide +kernel),codeAny_builtin PySem.F.entry_type_call ?_⟩;rw[Around.under_plain (weight_type_call_type "set" [.ref l] []) rfl];have h1:=PySem.F.called_set.notType;have h2:=PySem.F.called_set.canCreate;have Zn:=PySem.F.typeCall_set_1 (.ref l);have bL:ss.length=items.size:=by have:=hi.strs;rw[←this,vI,vG]
 repeat (any_goals (first|assumption|wp_step))
 refine codeAny_mono (xR (.ref l) (E:=E) (Q₁:=λobj s₁=>obj=.ref s.heap.objs.size/\s₁={ s with heap:=s.heap.push (eW w) }) ⟨rfl,rfl⟩) λr s₁ hr=>?_;cases r with
 |error e=>exact hr
 |ok fl=>
  cases fl with
  |ret obj=>
   obtain⟨rfl,rfl⟩:=hr;have hS:(s.heap.push (eW w)).get? s.heap.objs.size=some (eW w):=vY _ rfl;have hT:Shared.TypeIs { s with heap:=s.heap.push (eW w) } (.ref s.heap.objs.size) "set":=⟨_,hS,rfl⟩;have Zo:=PySem.F.called_set.init.lookup;have Zp:=PySem.F.called_set.init.bind (.ref s.heap.objs.size);repeat (any_goals (first|assumption|wp_step))
   refine codeAny_mono (codeAny_call_builtin (R:=wants (λr s₂=>r=.none/\∃h' tk,s₂={ s with heap:=h',toks:=tk } /\
     iW prog w h' s.heap.objs.size (iH ss) /\
     (∀b o,b<s.heap.objs.size->s.heap.get? b=some o->h'.get? b=some o)) E) PySem.F.called_set.init.plain PySem.F.entry_set_init (check_set_init_1 hT ?_)) λr₂ s₂ hr₂=>?_
   ·obtain⟨ol,Ny,rS,nl,Hk⟩:=hl;obtain⟨XA,Q9,V7,Nz⟩:=ol;simp only at rS Hk;subst rS;subst Hk;have TJ:(s.heap.push (eW w)).get? l=some { cls:=.type "list",dict:=Q9,data:=.seq items nl,slots:=Nz }:=vZ _ Ny;have XB:=PySem.F.sub_list_set;have XC:=PySem.F.sub_list_frozenset;have oM:(Value.type "list" == Value.type "dict")=false:=by decide
    have Ld:(s.heap.push (eW w)).IsList l items:=⟨_,TJ,rfl,nl,rfl⟩;unfold Builtin.«set.__init__» noKeywords Builtin.Frozenset.updateFrom;generalize hPI:pyIter=PI;wp_walk;subst hPI;refine wpAny_pyIter_list Ld ?_;refine wX (wpAny_runValue ?_);have V8:l<s.heap.objs.size:=vX Ny;have XD:A.in1.in1.in1.handled=none:=by simp[hh]
    have TK:l≠(s.heap.push (eW w)).objs.size:=by
     rw[Heap.size_push];exact vS (Nat.lt_succ_of_lt V8)
    have Nw:s.heap.objs.size∉[(s.heap.push (eW w)).objs.size,l]:=by
     rw[Heap.size_push];simp only[List.mem_cons,List.mem_singleton,List.not_mem_nil,or_false,not_or];exact⟨vS (Nat.lt_succ_self _),Nat.ne_of_gt V8⟩
    have Nx:∀(i:Nat)(v:Value),items[i]? = some v->∃x t,v=.str x t/\ss[i]? = some x:=λi v hv=>
     StrsAre.at hi i v (by rw[Array.getElem?_toList];exact hv)
    refine vi ((Walks.list XD _ l TK items).toS) s.heap.objs.size
     Nw ss bL Nx hb (items.size - 0) 0 _ (by omega) (uN _)
     ⟨⟨_,vY _ rfl,rfl,rfl⟩,(Ld.push _)⟩ ?hS0 ?hR
    case hS0=>
     have TL:((s.heap.push (eW w)).push { cls:=.type "list_iterator",data:=.fields #[.ref l,.int 0 0] }).get? s.heap.objs.size
       = some (eW w):=vZ _ hS
     exact⟨_,#[],0,_,TL,⟨rfl,rfl,rfl⟩,rfl,λe he=>by simp at he,List.Perm.refl _,List.nodup_nil,(by show(0:Nat)<scanBound;decide),rfl,rfl,λz=>absurd rfl z⟩
    case hR=>
     intro s' hm DJ
     obtain⟨h',g',d',Cs,Tl⟩:=s'
     have eg:g'=s.gens:=hm.gens
     have ed:d'=s.drawn:=hm.drawn
     have eo:Tl=s.os:=hm.os
     subst eg;subst ed;subst eo
     show wpAny _ _ _ _ _ _
     refine wY ?_
     show wpAny _ _ (ret Value.none) _ _ _
     refine wY ⟨rfl,h',Cs,rfl,DJ,λb o hb e=>?_⟩
     have hb1:b≠s.heap.objs.size:=vS hb
     have XE:b≠(s.heap.push (eW w)).objs.size:=by
      rw[Heap.size_push];exact vS (Nat.lt_succ_of_lt hb)
     exact hm.heap b o (by simp only[List.mem_cons,List.mem_singleton,List.not_mem_nil,or_false,not_or];exact⟨hb1,XE⟩) (vZ _ (vZ _ e))
   ·cases r₂ with
    |error e=>exact hr₂
    |ok fl₂=>
     cases fl₂ with
     |ret r=>
      obtain⟨rfl,h',tk,rfl,DJ,fG⟩:=hr₂;repeat (any_goals (first|assumption|wp_step))
      exact h _ _ DJ fG
     |_=>exact hr₂.elim
  |_=>exact hr.elim
end
open Sem (wp)
section
variable {M:Model}{A:Around}{E:Value->Shared->Prop}{s:Shared}
theorem Iz (hn:n≠0)(h:∀k d,k<n->Q k { s with drawn:=d }):wpAny M A (choose src n) Q E s:=by
 intro Γ p hG;unfold choose;rw[Sem.wp_choose];refine⟨hn,?_⟩;have:=h _ (s.drawn.bump src) (Nat.mod_lt (M.w.draws src (s.drawn.get src)) (Nat.pos_of_ne_zero hn));simpa using this
end
theorem mr {α:Type}:∀(l:List α)(i:Nat),i<l.length->(l.eraseIdx i).length=l.length - 1:=λl i h=>by rw[List.length_eraseIdx,if_pos h]
theorem lF {α:Type}:∀(l:List α)(i:Nat)(x:α),l[i]? = some x->(x::l.eraseIdx i).Perm l
 |[],i,x,h=>by simp at h
 |a::l,0,x,h=>by simp at h;subst h;exact List.Perm.refl _
 |a::l,i+1,x,h=>by
  rw[List.eraseIdx_cons_succ];simp only[List.getElem?_cons_succ]at h;exact(List.Perm.swap a x _).trans ((lF l i x h).cons a)
theorem Bj {α:Type}:∀(n:Nat)(xs:List α)(s:Shared)(Q:List α->Shared->Prop),xs.length=n->(∀ys d,ys.Perm xs->Q ys { s with drawn:=d })->wpAny M A (drawOrder n xs) Q E s
 |0,xs,s,Q,hl,h=>by
  have:xs=[]:=List.eq_nil_of_length_eq_zero hl;subst this;exact wY (h [] s.drawn (List.Perm.refl _))
 |n+1,[],s,Q,hl,h=>by simp at hl
 |n+1,x::r,s,Q,hl,h=>by
  show wpAny M A (choose .order (x::r).length>>=λi=>match (x::r)[i]? with
   |some x'=>(do return x'::(←drawOrder n ((x::r).eraseIdx i)))
   |none=>unsupported "internal:drawOrder") Q E s
  refine wX (Iz (by simp) λk d hk=>?_);obtain⟨y,hy⟩:∃y,(x::r)[k]? = some y:=⟨_,vU hk⟩;rw[hy];refine wX (Bj n _ _ _ (by rw[mr _ _ hk,hl];rfl) λys d' hp=>wY (h _ _ ((hp.cons y).trans (lF _ _ _ hy))))
theorem Bk {α:Type}(next:Nat->Nat):∀(fuel k:Nat)(left:List α)(out:Array α),left.length=fuel->(pickOrder.go next fuel k left out).toList.Perm (out.toList++left)
 |0,k,left,out,hl=>by
  have:left=[]:=List.eq_nil_of_length_eq_zero hl;subst this;unfold pickOrder.go;simp
 |fuel+1,k,left,out,hl=>by
  unfold pickOrder.go;have hk:next k % left.length<left.length:=Nat.mod_lt _ (by omega);obtain⟨y,hy⟩:∃y,left[next k % left.length]? = some y:=⟨_,vU hk⟩;rw[hy];dsimp only;refine(Bk next fuel (k+1) _ _ (by rw[mr _ _ hk];omega)).trans ?_;rw[Array.toList_push,List.append_assoc];exact(lF _ _ _ hy).append_left _
theorem CZ {α:Type}(next:Nat->Nat)(xs:Array α):(pickOrder next xs).toList.Perm xs.toList:=by
 have:=Bk next xs.size 0 xs.toList #[] (by simp);simpa [pickOrder]using this
theorem bC:Slot "set_iterator" "__next__" "set_iterator.__next__" :=
 .of (owner:="set_iterator") (n:="__next__") (by rw[typeLookup_type,builtinLookup_eq_fast];kernel_rfl) (by decide +kernel) (by decide +kernel) (by decide +kernel)
  (by first|exact .inl (by decide +kernel)|exact .inr (by decide +kernel)) (by rw[isSubtype_type];kernel_rfl)
theorem fK:entryFor table "set_iterator.__next__" = some Builtin.«set_iterator.__next__»:=entryFor_of_tree (by kernel_rfl)
theorem gt (a:Value):argsOk "set_iterator.__next__" ⟨[a],[]⟩:=by unfold argsOk;kernel_rfl
theorem lr:Slot "set_iterator" "__iter__" "set_iterator.__iter__" :=
 .of (owner:="set_iterator") (n:="__iter__") (by rw[typeLookup_type,builtinLookup_eq_fast];kernel_rfl) (by decide +kernel) (by decide +kernel) (by decide +kernel)
  (by first|exact .inl (by decide +kernel)|exact .inr (by decide +kernel)) (by rw[isSubtype_type];kernel_rfl)
theorem pO:entryFor table "set_iterator.__iter__" = some Builtin.«dict_keyiterator.__iter__» :=
 entryFor_alias (id':="dict_keyiterator.__iter__") (by kernel_rfl) rfl (by decide +kernel) (by kernel_rfl)
theorem si (a:Value):argsOk "set_iterator.__iter__" ⟨[a],[]⟩:=by unfold argsOk;kernel_rfl
theorem oU:entryFor table "set.__iter__" = some Builtin.«frozenset.__iter__» :=
 entryFor_alias (id':="frozenset.__iter__") (by kernel_rfl) rfl (by decide +kernel) (by kernel_rfl)
noncomputable abbrev lG (fst:Value)(i:Nat)(S:Addr)(n ep:Nat):Obj:={ cls:=.type "set_iterator",data:=.fields #[fst,.int i 0,.ref S,.int n 0,.int ep 0] }
section
variable {prog:Program}{w:World}{A:Around}{E:Value->Shared->Prop}{s:Shared}{it S:Addr}{i ep:Nat}{o:Obj}{es:Array (Int×Value)}{t:SetTable}
theorem dO (ho:s.heap.get? it=some (lG fst i S n ep)):s.TypeIs (.ref it) "set_iterator":=⟨_,ho,rfl⟩
theorem vj {k k':Nat}{x:Value}{Q:Option Value->Shared->Prop}(ho:s.heap.get? it=some (lG (.int k 0) i S es.size ep))
  (hS:s.heap.get? S=some o) (hd:o.data=.set es ep t) (hf:t.fits es.size=true)
  (hN:∀(A':Around)(E':Value->Shared->Prop)(Q':Option (Value×Nat)->Shared->Prop),Q' (some (x,k')) s->wpAny (model prog w) A' (setNext S k i ep) Q' E' s)
  (hQ:∀h',h'.get? it=some (lG (.int k' 0) (i+1) S es.size ep)->Heap.SameBut it s.heap h'->Q (some x) { s with heap:=h' }):
  wpAny (model prog w) A (pyNext (.ref it)) Q E s:=by
 unfold pyNext;refine wX (wpAny_attempt (wpAny_callSpecial?_slot (name:=Str.ofString "__next__") (dO ho) bC
  (wpAny_call_entry bC (dO ho) fK ?_ (gt _))))
 show wpAny _ _ (fieldsOf (.ref it)>>=_) _ _ s;refine wX (wpAny_fieldsOf ho rfl ?_);show wpAny _ _ (setEntries S>>=_) _ _ s;refine wX (wpAny_setEntries_of hS hd hf ?_);rw[if_neg (by simp)];show wpAny _ _ (setNext S _ _ _>>=_) _ _ s;simp only[Int.toNat_natCast];refine wX (hN _ _ _ ?_);dsimp only;refine wX (wpAny_setField_rec ho (by simp) λh1 e1 b1=>?_);refine wX (wpAny_setField_rec e1 (by simp) λh2 e2 b2=>?_);exact wY ⟨x,rfl,wY (hQ h2 (by simpa [rawInt,lG]using e2) (b1.trans b2))⟩
theorem vk {k:Nat}{Q:Option Value->Shared->Prop}(hh:A.handled=none)(ho:s.heap.get? it=some (lG (.int k 0) i S es.size ep))
  (hS:s.heap.get? S=some o) (hd:o.data=.set es ep t) (hf:t.fits es.size=true)
  (hN:∀(A':Around)(E':Value->Shared->Prop)(Q':Option (Value×Nat)->Shared->Prop),Q' none s->wpAny (model prog w) A' (setNext S k i ep) Q' E' s)
  (hQ:∀h',Heap.ExtBut it s.heap h'->Q none { s with heap:=h' }):
  wpAny (model prog w) A (pyNext (.ref it)) Q E s:=by
 unfold pyNext;refine wX (wpAny_attempt (wpAny_callSpecial?_slot (name:=Str.ofString "__next__") (dO ho) bC
  (wpAny_call_entry bC (dO ho) fK ?_ (gt _))))
 show wpAny _ _ (fieldsOf (.ref it)>>=_) _ _ s;refine wX (wpAny_fieldsOf ho rfl ?_);show wpAny _ _ (setEntries S>>=_) _ _ s;refine wX (wpAny_setEntries_of hS hd hf ?_);rw[if_neg (by simp)];show wpAny _ _ (setNext S _ _ _>>=_) _ _ s;simp only[Int.toNat_natCast];refine wX (hN _ _ _ ?_);dsimp only;refine wX (wpAny_setField_rec ho (by simp) λh1 e1 b1=>?_);refine wX ?_;simp only[newExc,newTuple];refine wX (wpAny_newObj_type ?_ (by size_fits));refine wX (m:=firstArgMember _ _) (wpAny_of_eq (a:=Value.none) (by first|rfl|(simp only[firstArgMember];rfl)) ?_);refine wpAny_newObj_type ?_ (by size_fits);simp only[raiseNew];refine wX (wpAny_handled ?_);rw[show A.in1.handled=none from hh];refine wX (wY (wpAny_throw ?_));refine wX (wpAny_isInstance (T:="StopIteration") (b:=true) ⟨_,vY _ rfl,rfl⟩ isSubtype_stop ?_);exact wY (hQ _ ((b1.extBut.push _).push _))
theorem sj {T:Addr}{pl:List Nat}{p:Nat}{x:Int×Value}{nt:Nat}{Q:Option Value->Shared->Prop}(ho:s.heap.get? it=some (lG (.ref T) i S es.size ep))
  (hT:s.heap.get? T=some (seqObj "tuple" (pl.map λ(p:Nat)=>Value.int p 0).toArray nt))
  (hS:s.heap.get? S=some o) (hd:o.data=.set es ep t) (hf:t.fits es.size=true) (hp:pl[i]? = some p) (hx:es[p]? = some x)
  (hQ:∀h',h'.get? it=some (lG (.ref T) (i+1) S es.size ep)->Heap.SameBut it s.heap h'->Q (some x.2) { s with heap:=h' }):
  wpAny (model prog w) A (pyNext (.ref it)) Q E s:=by
 unfold pyNext;refine wX (wpAny_attempt (wpAny_callSpecial?_slot (name:=Str.ofString "__next__") (dO ho) bC
  (wpAny_call_entry bC (dO ho) fK ?_ (gt _))))
 show wpAny _ _ (fieldsOf (.ref it)>>=_) _ _ s;refine wX (wpAny_fieldsOf ho rfl ?_);show wpAny _ _ (setEntries S>>=_) _ _ s;refine wX (wpAny_setEntries_of hS hd hf ?_);rw[if_neg (by simp)];show wpAny _ _ (seqItems? (.ref T)>>=_) _ _ s;refine wX (wpAny_seqItems hT rfl ?_);have e1:(pl.map λ(p:Nat)=>Value.int p 0).toArray[(i:Int).toNat]? = some (.int p 0):=by simp[hp]
 dsimp only;rw[e1];dsimp only;have e2:wpAny (model prog w) A.in1 (setNextDrawn S (p:Int).toNat (ep:Int).toNat) (λy s'=>y=x.2/\s'=s) (λ_ _=>False) s:=by
  unfold setNextDrawn;refine wX (wpAny_setState_of hS hd hf ?_);dsimp only;rw[if_neg (by simp)];simp only[Int.toNat_natCast,hx];exact wY ⟨rfl,rfl⟩
 refine wX (wpAny_mono e2 (λy s' hy=>?_) λ_ _ z=>z.elim);obtain⟨rfl,rfl⟩:=hy;refine wX (wpAny_setField_rec ho (by simp) λh1 e1 b1=>?_);exact wY ⟨_,rfl,wY (hQ h1 (by simpa [rawInt,lG]using e1) b1)⟩
theorem sk {T:Addr}{pl:List Nat}{nt:Nat}{Q:Option Value->Shared->Prop}(hh:A.handled=none)(ho:s.heap.get? it=some (lG (.ref T) i S es.size ep))
  (hT:s.heap.get? T=some (seqObj "tuple" (pl.map λ(p:Nat)=>Value.int p 0).toArray nt))
  (hS:s.heap.get? S=some o) (hd:o.data=.set es ep t) (hf:t.fits es.size=true) (hp:pl[i]? = none)
  (hQ:∀h',Heap.ExtBut it s.heap h'->Q none { s with heap:=h' }):
  wpAny (model prog w) A (pyNext (.ref it)) Q E s:=by
 unfold pyNext;refine wX (wpAny_attempt (wpAny_callSpecial?_slot (name:=Str.ofString "__next__") (dO ho) bC
  (wpAny_call_entry bC (dO ho) fK ?_ (gt _))))
 show wpAny _ _ (fieldsOf (.ref it)>>=_) _ _ s;refine wX (wpAny_fieldsOf ho rfl ?_);show wpAny _ _ (setEntries S>>=_) _ _ s;refine wX (wpAny_setEntries_of hS hd hf ?_);rw[if_neg (by simp)];show wpAny _ _ (seqItems? (.ref T)>>=_) _ _ s;refine wX (wpAny_seqItems hT rfl ?_);have e1:(pl.map λ(p:Nat)=>Value.int p 0).toArray[(i:Int).toNat]? = none:=by simpa using hp
 dsimp only;rw[e1];dsimp only;refine wX (wpAny_setField_rec ho (by simp) λh0 e0 b0=>?_);refine wX (wpAny_setField_rec e0 (by simp) λh1 e1 b1=>?_);refine wX ?_;simp only[newExc,newTuple];refine wX (wpAny_newObj_type ?_ (by size_fits));refine wX (m:=firstArgMember _ _) (wpAny_of_eq (a:=Value.none) (by first|rfl|(simp only[firstArgMember];rfl)) ?_);refine wpAny_newObj_type ?_ (by size_fits);simp only[raiseNew];refine wX (wpAny_handled ?_);rw[show A.in1.handled=none from hh];refine wX (wY (wpAny_throw ?_));refine wX (wpAny_isInstance (T:="StopIteration") (b:=true) ⟨_,vY _ rfl,rfl⟩ isSubtype_stop ?_);exact wY (hQ _ (((b0.trans b1).extBut.push _).push _))
theorem xS (ho:s.heap.get? it=some (lG fst i S n ep))(h:Q (.ref it) s):wpAny (model prog w) A (pyIter (.ref it)) Q E s:=by
 refine wpAny_pyIter_slot (dO ho) lr (wpAny_call_entry lr (dO ho) pO ?_ (si _));show wpAny _ _ (ret (.ref it)) _ _ s;exact wY ⟨_,rfl,"set_iterator",_,dO ho,bC.lookup,h⟩
end
section
variable {prog:Program}{w:World}{A:Around}{E:Value->Shared->Prop}{s:Shared}{it S:Addr}{i k ep:Nat}{o:Obj}{es:Array (Int×Value)}{t:SetTable}
theorem sZ (hS:s.heap.get? S=some o)(hd:o.data=.set es ep t)(hf:t.fits es.size=true)(hb:w.params.followText "set-order" = true)
  (h:Q (((pickOrder (w.params.setOrder S ep) es)[i]?).map λe=>(e.2,k)) s):wpAny (model prog w) A (setNext S k i ep) Q E s:=by
 unfold setNext;refine wX (wpAny_setState_of hS hd hf ?_);dsimp only;unfold setsByText;refine wX (wX (wpAny_askSetting (wY ?_)));show wpAny _ _ (if w.params.followText "set-order" = true then _ else _) _ _ _;rw[if_pos hb,if_neg (by simp)];unfold setWalk setsByText;refine wX (wX (wpAny_setState_of hS hd hf ?_));dsimp only;refine wX (wX (wpAny_askSetting (wY ?_)));show wpAny _ _ (if w.params.followText "set-order" = true then _ else _) _ _ _;rw[if_pos hb];refine wX (wpAny_askSetting (wY ?_));exact wY h
theorem pP (hS:s.heap.get? S=some o)(hd:o.data=.set es ep t)(hf:t.fits es.size=true)(hb:w.params.followText "set-order" = false)(hl:t.led=true)(hz:es.size<=1)
  (h:Q (match es[SetTable.below t.place k]?,t.place[SetTable.below t.place k]? with
   |some (_,x),some j=>some (x,j+1)
   |_,_=>none) s):wpAny (model prog w) A (setNext S k i ep) Q E s:=by
 unfold setNext;refine wX (wpAny_setState_of hS hd hf ?_);dsimp only;unfold setsByText;refine wX (wX (wpAny_askSetting (wY ?_)));show wpAny _ _ (if w.params.followText "set-order" = true then _ else _) _ _ _;rw[if_neg (by rw[hb];simp)];show wpAny _ _ (if(!t.plain && decide (es.size > 1))=true then _ else _) _ _ _;rw[if_neg (by rw[decide_eq_false (by omega)];simp)];show wpAny _ _ ((if(!t.led && !es.isEmpty)=true then unsupported "set:maker-not-led" else pure ())>>=_) _ _ _;rw[hl,if_neg (by simp)];refine wX (wY ?_);exact wY h
theorem tm (hh:A.handled=none)(hd:o.data=.set es ep t)(hf:t.fits es.size=true)(oM:S≠it)(vs:List Value)(hv:vs.length=es.size)(sl:Nat->Nat)
  (hN:∀i x,vs[i]? = some x->∀(A':Around)(E':Value->Shared->Prop)(s:Shared)(Q':Option (Value×Nat)->Shared->Prop),s.heap.get? S=some o->Q' (some (x,sl (i+1))) s->wpAny (model prog w) A' (setNext S (sl i) i ep) Q' E' s)
  (hE:∀(A':Around)(E':Value->Shared->Prop)(s:Shared)(Q':Option (Value×Nat)->Shared->Prop),s.heap.get? S=some o->Q' none s->wpAny (model prog w) A' (setNext S (sl es.size) es.size ep) Q' E' s):
  Walks prog w A it [it,S] [it] es.size (λi v=>vs[i]? = some v) (λi h=>h.get? it=some (lG (.int (sl i) 0) i S es.size ep)/\h.get? S=some o) where
 sub:=λb hb=>by simp at hb;simp[hb]
 frame:=λ_ _ _ st hk=>⟨hk it (by simp) _ st.1,hk S (by simp) _ st.2⟩
 item:=λi s Q E hi st hQ=>by
  obtain⟨x,hx⟩:∃x,vs[i]? = some x:=⟨_,vU (by omega)⟩;refine vj st.1 st.2 hd hf (λA' E' Q' q=>hN i x hx A' E' s Q' st.2 q) λh' h1 h2=>?_;exact hQ x h' s.toks hx ⟨h1,h2.extBut S _ oM st.2⟩ λb u hb e=>h2.extBut b u (λz=>hb (by simp[z])) e
 done:=λs Q E st hQ=>vk hh st.1 st.2 hd hf (λA' E' Q' q=>hE A' E' s Q' st.2 q) λh' h1=>hQ h' s.toks λb u hb e=>h1 b u (λz=>hb (by simp[z])) e
 self:=λ_ _ _ _ st hQ=>xS st.1 hQ
theorem Ag {T:Addr}{pl:List Nat}{nt:Nat}(hh:A.handled=none)(hd:o.data=.set es ep t)(hf:t.fits es.size=true)(oM:S≠it)(XF:T≠it)(hp:pl.Perm (List.range es.size)):
  Walks prog w A it [it,S,T] [it] es.size (λi v=>(pl.map λp=>(es.getD p (0,.none)).2)[i]? = some v)
   (λi h=>h.get? it=some (lG (.ref T) i S es.size ep)/\h.get? S=some o/\h.get? T=some (seqObj "tuple" (pl.map λ(p:Nat)=>Value.int p 0).toArray nt)) where
 sub:=λb hb=>by simp at hb;simp[hb]
 frame:=λ_ _ _ st hk=>⟨hk it (by simp) _ st.1,hk S (by simp) _ st.2.1,hk T (by simp) _ st.2.2⟩
 item:=λi s Q E hi st hQ=>by
  have bL:pl.length=es.size:=by rw[hp.length_eq,List.length_range]
  obtain⟨p,hx⟩:∃p,pl[i]? = some p:=⟨_,vU (by omega)⟩;have RK:p<es.size:=List.mem_range.mp (hp.mem_iff.mp (vL hx));have he:es[p]? = some (es.getD p (0,.none)):=by rw[Array.getD_eq_getD_getElem?,Array.getElem?_eq_getElem RK];rfl
  refine sj st.1 st.2.2 st.2.1 hd hf hx he λh' h1 h2=>?_;exact hQ _ h' s.toks (by simp[hx]) ⟨h1,h2.extBut S _ oM st.2.1,h2.extBut T _ XF st.2.2⟩ λb u hb e=>h2.extBut b u (λz=>hb (by simp[z])) e
 done:=λs Q E st hQ=>by
  have bL:pl.length=es.size:=by rw[hp.length_eq,List.length_range]
  exact sk hh st.1 st.2.2 st.2.1 hd hf (List.getElem?_eq_none (by omega)) λh' h1=>hQ h' s.toks λb u hb e=>h1 b u (λz=>hb (by simp[z])) e
 self:=λ_ _ _ _ st hQ=>xS st.1 hQ
end
theorem Ah {α:Type}(es:Array α)(d:α):(List.range es.size).map (λp=>es.getD p d)=es.toList:=by
 apply List.ext_getElem?;intro i;by_cases h:i<es.size
 ·simp[h,Array.getD_eq_getD_getElem?]
 ·simp[h]
section
variable {prog:Program}{w:World}{A:Around}{E:Value->Shared->Prop}{s:Shared}
theorem tp (h:xs=#[j]):SetTable.below xs k=if j<k then 1 else 0:=by
 subst h;by_cases h:j<k
 ·simp[SetTable.below,SetTable.below.go,h]
 ·simp[SetTable.below,SetTable.below.go,h]
theorem Fe {S:Addr}{ts:List Str}{Q:Value->Shared->Prop}(hS:iW prog w s.heap S ts)
  (hQ:∀(h':Heap)(d:Drawn)(it:Addr)(vs:List Value)(fp:List Addr)(St:Nat->Heap->Prop),(∀A',A'.handled=none->Walks prog w A' it fp [it] ts.length (λi v=>vs[i]? = some v) St)->St 0 h' ->
   (∀b u,s.heap.get? b=some u->h'.get? b=some u)->s.heap.objs.size<=it->(∀b∈fp,b=S∨s.heap.objs.size<=b)->vs.length=ts.length->(vs.map strOf).Perm ts->(∀v∈vs,∃x t,v=.str x t) ->
   Q (.ref it) { s with heap:=h',drawn:=d }):wpAny (model prog w) A (pyIter (.ref S)) Q E s:=by
 obtain⟨o,es,ep,t,ho,JJ,hd,DU,hp,nd,hb,hf,JM,lz⟩:=hS;have sz:es.size=ts.length:=by rw[←hp.length_eq,vI,vG]
 have N6:S<s.heap.objs.size:=vX ho;have V9:s.TypeIs (.ref S) "set":=⟨_,ho,JJ.1⟩;have GK:∀e∈es.toList,∃x t,e.2=.str x t:=λe he=>by
  obtain⟨⟨k,hk,_⟩,_⟩:=DU e he;obtain⟨t,q⟩:=Value.isStrOf_shape (show Value.isStrOf k e.2=true from hk);exact⟨k,t,q⟩
 refine wpAny_pyIter_slot V9 PySem.F.slot_set_iter (wpAny_call_entry PySem.F.slot_set_iter V9 oU ?_ (PySem.F.args_set_iter_1 _));show wpAny _ _ (Builtin.Frozenset.sizeOf S>>=_) _ _ s;unfold Builtin.Frozenset.sizeOf;refine wX (wX (wpAny_setEntries_of ho hd hf (wY ?_)));unfold setDrawn setsByText;refine wX (wX (wpAny_setState_of ho hd hf ?_));dsimp only;refine wX (wX (wpAny_askSetting (wY (wY ?_))));show wpAny _ _ (if(!w.params.followText "set-order" && (!t.plain && decide (es.size > 1)))=true then _ else _) _ _ _;have N7:(es.toList.map (·.2)).map strOf=es.toList.map (λe=>strOf e.2):=by rw[uP];rfl
 by_cases Le:w.params.followText "set-order" = true
 ·rw[if_neg (by rw[Le];simp)];refine wX (wY ?_);refine wX (wpAny_setEpoch_of ho hd hf ?_);have pp:=CZ (w.params.setOrder S ep) es;have bL:((pickOrder (w.params.setOrder S ep) es).toList.map (·.2)).length=es.size:=by rw[vI,pp.length_eq,vG]
  refine wX (wpAny_newObj_type (wY ⟨_,rfl,"set_iterator",_,⟨_,vY _ rfl,rfl⟩,bC.lookup,?_⟩));refine hQ _ s.drawn s.heap.objs.size ((pickOrder (w.params.setOrder S ep) es).toList.map (·.2)) [s.heap.objs.size,S] (λi h=>h.get? s.heap.objs.size=some (lG (.int ((λ_=>0:Nat->Nat) i:Nat) 0) i S es.size ep)/\h.get? S=some o) (λA' hA=>?_) ?_ (λb u e=>vZ _ e) (vT _) (λb hb=>?_) (bL.trans sz) ?_ ?_
  ·rw[←sz];exact tm hA hd hf (vS N6) _ bL (λ_=>0) (λi x hx A' E' s Q' h1 h2=>sZ h1 hd hf Le (by
    rw[vA,Array.getElem?_toList]at hx;obtain⟨e,he,rfl⟩:=oY hx;rw[he];exact h2)) (λA' E' s Q' h1 h2=>sZ h1 hd hf Le (by
    rw[Array.getElem?_eq_none (by rw[←vG,pp.length_eq,vG];exact vT _)];exact h2))
  ·exact⟨vY _ rfl,vZ _ ho⟩
  ·simp only[List.mem_cons,List.not_mem_nil,or_false]at hb;rcases hb with rfl|rfl
   ·exact .inr (vT _)
   ·exact .inl rfl
  ·refine List.Perm.trans ?_ hp;rw[←N7];exact(pp.map _).map _
  ·intro v hv;obtain⟨e,he,rfl⟩:=vO hv;exact GK e (pp.mem_iff.mp he)
 ·rw[Bool.not_eq_true]at Le;have hl:t.led=true:=by rw[JM,Le];rfl
  by_cases h1:es.size<=1
  ·rw[if_neg (by rw[decide_eq_false (by omega)];simp)];refine wX (wY ?_);refine wX (wpAny_setEpoch_of ho hd hf ?_);refine wX (wpAny_newObj_type (wY ⟨_,rfl,"set_iterator",_,⟨_,vY _ rfl,rfl⟩,bC.lookup,?_⟩));have Zq:t.place.size=es.size:=by
    simp only[SetTable.fits,vC,beq_iff_eq,decide_eq_true_eq]at hf;exact hf.1
   refine hQ _ s.drawn s.heap.objs.size (es.toList.map (·.2)) [s.heap.objs.size,S] (λi h=>h.get? s.heap.objs.size=some (lG (.int ((λi=>if i=0 then 0 else t.place.getD 0 0+1:Nat->Nat) i:Nat) 0) i S es.size ep)/\h.get? S=some o) (λA' hA=>?_) ?_ (λb u e=>vZ _ e) (vT _) (λb hb=>?_) (by rw[vI,vG,sz]) (by rw[N7];exact hp) ?_
   ·rw[←sz];refine tm hA hd hf (vS N6) _ (by simp) (λi=>if i=0 then 0 else t.place.getD 0 0+1) (λi x hx A' E' s Q' q1 q2=>pP q1 hd hf Le hl h1 ?_) (λA' E' s Q' q1 q2=>pP q1 hd hf Le hl h1 ?_)
    ·have hi:i<es.size:=by have:=(vV hx).1;simpa using this
     have XG:i=0:=by omega
     subst XG;obtain⟨j,hj⟩:∃j,t.place=#[j]:=Array.size_eq_one_iff.mp (by omega);rw[if_pos rfl,tp hj,if_neg (by omega)];rw[vA,Array.getElem?_toList]at hx;obtain⟨e,he,rfl⟩:=oY hx;rw[he];simp only[hj]at q2 ⊢;simpa using q2
    ·by_cases h0:es.size=0
     ·have TM:t.place=#[]:=Array.eq_empty_of_size_eq_zero (by omega);have XH:es=#[]:=Array.eq_empty_of_size_eq_zero h0;rw[TM,XH];simpa using q2
     ·obtain⟨j,hj⟩:∃j,t.place=#[j]:=Array.size_eq_one_iff.mp (by omega);rw[if_neg h0,tp hj];have:t.place.getD 0 0=j:=by rw[hj];rfl
      rw[this,if_pos (by omega),Array.getElem?_eq_none (by omega)];exact q2
   ·exact⟨vY _ rfl,vZ _ ho⟩
   ·simp only[List.mem_cons,List.not_mem_nil,or_false]at hb;rcases hb with rfl|rfl
    ·exact .inr (vT _)
    ·exact .inl rfl
   ·intro v hv;obtain⟨e,he,rfl⟩:=vO hv;exact GK e he
  ·have TM:t.plain=false:=lz (by omega);rw[if_pos (by rw[Le,TM,decide_eq_true (by omega)];rfl)];refine wX (Bj es.size (List.range es.size) _ _ (by simp) λpl d pp=>?_);refine wX (wpAny_newTuple ?_ (by rw[vI,pp.length_eq,List.length_range,sz];exact fits_of_scanBound hb));refine wX (wpAny_setEpoch_of (vZ _ ho) hd hf ?_);refine wX (wpAny_newObj_type (wY ⟨_,rfl,"set_iterator",_,⟨_,vY _ rfl,rfl⟩,bC.lookup,?_⟩));have hsz:(s.heap.push (seqObj "tuple" (pl.map λ(p:Nat)=>Value.int p 0).toArray 0)).objs.size=s.heap.objs.size+1:=size_push' _ _;have gI:((pl.map λp=>(es.getD p (0,.none)).2)).Perm (es.toList.map (·.2)):=by
    have:=(pp.map λp=>es.getD p (0,Value.none)).map (·.2);rw[Ah]at this;rw[uP]at this;exact this
   refine hQ _ d _ (pl.map λp=>(es.getD p (0,.none)).2) [(s.heap.push (seqObj "tuple" (pl.map λ(p:Nat)=>Value.int p 0).toArray 0)).objs.size,S,s.heap.objs.size] (λi h=>h.get? (s.heap.push (seqObj "tuple" (pl.map λ(p:Nat)=>Value.int p 0).toArray 0)).objs.size=some (lG (.ref s.heap.objs.size) i S es.size ep)/\h.get? S=some o/\h.get? s.heap.objs.size=some (seqObj "tuple" (pl.map λ(p:Nat)=>Value.int p 0).toArray 0)) (λA' hA=>?_) ?_ (λb u e=>vZ _ (vZ _ e)) ?_ (λb hb=>?_) ?_ ?_ ?_
   ·rw[←sz];exact Ag (nt:=0) hA hd hf (by show S≠(s.heap.push _).objs.size;rw[size_push'];exact vS (Nat.lt_succ_of_lt N6)) (by show s.heap.objs.size≠(s.heap.push _).objs.size;rw[size_push'];exact vS (Nat.lt_succ_self _)) pp
   ·exact⟨vY _ rfl,vZ _ (vZ _ ho),vZ _ (vY _ rfl)⟩
   ·show s.heap.objs.size<=(s.heap.push _).objs.size;rw[size_push'];omega
   ·simp only[List.mem_cons,List.not_mem_nil,or_false]at hb;rcases hb with rfl|rfl|rfl
    ·refine .inr ?_;show s.heap.objs.size<=(s.heap.push _).objs.size;rw[size_push'];omega
    ·exact .inl rfl
    ·exact .inr (vT _)
   ·rw[gI.length_eq,vI,vG,sz]
   ·exact((gI.map strOf).trans (by rw[N7])).trans hp
   ·intro v hv;obtain⟨e,he,rfl⟩:=vO (gI.mem_iff.mp hv);exact GK e he
end
theorem Db (h:ItemsOf (λi v=>vs[i]? = some v) lV vs.length):lV.toList=vs:=by
 apply List.ext_getElem?;intro i;by_cases hi:i<lV.size
 ·have e:lV[i]? = some lV[i]:=Array.getElem?_eq_getElem hi;rw[Array.getElem?_toList,e,h.2 i _ e]
 ·rw[List.getElem?_eq_none (by rw[vG];omega),List.getElem?_eq_none (by rw[←h.1];omega)]
section
variable {prog:Program}{w:World}{A:Around}{E:Value->Shared->Prop}{s:Shared}
theorem xT (hh:A.handled=none)(hS:iW prog w s.heap S ts)
  (hQ:∀s' vs,(∀b u,s.heap.get? b=some u->s'.heap.get? b=some u)->s'.gens=s.gens->s'.os=s.os->vs.length=ts.length->(vs.map strOf).Perm ts->(∀v∈vs,∃x t,v=.str x t)->Q vs s'):
  wpAny (model prog w) A (collect (.ref S)) Q E s:=by
 have KZ:∀(s1:Shared),iW prog w s1.heap S ts->s1.TypeIs (.ref S) "set":=λs1 h=>by
  obtain⟨o,_,_,_,ho,JJ,_⟩:=h;exact⟨o,ho,JJ.1⟩
 have fR:S<s.heap.objs.size:=by obtain⟨o,_,_,_,ho,_⟩:=hS;exact vX ho
 have QA:ts.length<scanBound:=by obtain⟨_,_,_,_,_,_,_,_,_,_,h,_⟩:=hS;exact h
 unfold collect;refine wX (wpAny_runValue (codeAny_builtin PySem.F.entry_proto_collect ?_));rw[Around.under_plainId PySem.F.plain_proto_collect _];show wpAny _ A.in1 (newList []>>=λl=>again (.builtin "list.__iadd__" ⟨[l,.ref S],[]⟩)) _ _ s;refine wX (wpAny_newObj_type ?_);refine wY ⟨plainId_quiet PySem.F.plain_list_iadd _,codeAny_builtin PySem.F.entry_list_iadd ?_⟩;rw[Around.under_plainId PySem.F.plain_list_iadd _];show wpAny _ A.in1 (Builtin.List.listExtendWith (.ref s.heap.objs.size) (.ref S) (.ref s.heap.objs.size)) _ _ _;unfold Builtin.List.listExtendWith;have TN:iW prog w (s.heap.push { cls:=.type "list",data:=.seq ([]:List Value).toArray }) S ts:=hS.at λo e=>vZ _ e;refine wX (wpAny_typeOf (KZ _ TN) ?_);have DW:s.heap.objs.size≠S:=Nat.ne_of_gt fR;have h1:Builtin.List.listSameRef (.ref s.heap.objs.size) (.ref S)=false:=by simp[Builtin.List.listSameRef,DW]
 have h2:(Value.type "set" == Value.type "list")=false:=by decide
 have h3:(Value.type "set" == Value.type "tuple")=false:=by decide
 simp only[h1,h2,h3,Bool.or_false,uV,if_false];refine wX (Fe (s:={ s with heap:=s.heap.push { cls:=.type "list",data:=.seq ([]:List Value).toArray } }) TN λh' d it vs fp St W jL hk Hl hfp zk gI GG=>?_);have Q8:iW prog w h' S ts:=TN.at λo e=>hk _ _ e;refine wX (wpAny_holding ?_);unfold Builtin.List.listLengthHint;refine wX (wpAny_specialOf (KZ _ Q8) PySem.F.slot_set_len.lookup ?_);wp_delta;refine wX (wpAny_isInstance (KZ _ Q8) sub_set_self ?_);show wpAny _ A.in1 (typeOf (Value.ref S)>>=_) _ _ _;refine wX (wpAny_typeOf (KZ _ Q8) ?_);refine wY ?_;rw[if_pos (by decide)];refine wX (wpAny_rule ?_);refine wX ?_;have QB:(s.heap.push { cls:=.type "list",data:=.seq ([]:List Value).toArray }).objs.size=s.heap.objs.size+1:=size_push' _ _;have VA:h'.get? s.heap.objs.size=some { cls:=.type "list",data:=.seq ([]:List Value).toArray }:=hk _ _ (vY _ rfl);show wpAny _ A.in1 (updateSeq s.heap.objs.size (·.push .none)>>=λ_=>updateSeq s.heap.objs.size (·.pop)) _ _ _;refine wX (wpAny_updateSeq VA rfl ?_);have VB:=Heap.get?_update_self (Obj.mapSeq (·.push Value.none)) VA rfl;refine wpAny_updateSeq VB rfl ?_;have XI:=Heap.get?_update_self (Obj.mapSeq (·.pop)) VB rfl;have Nw:s.heap.objs.size∉fp:=λhm=>by
  rcases hfp _ hm with z|z
  ·exact DW z
  ·rw[QB]at z;exact absurd z (Nat.not_succ_le_self _)
 have VC:∀b u,b≠s.heap.objs.size->h'.get? b=some u ->
   ((h'.update s.heap.objs.size (Obj.mapSeq (·.push Value.none))).update s.heap.objs.size (Obj.mapSeq (·.pop))).get? b=some u :=
  λb u hb e=>(Heap.get?_update_other _ _ (Ne.symm hb)).trans ((Heap.get?_update_other _ _ (Ne.symm hb)).trans e)
 have W0:=W A.in1 hh;refine wY ⟨plainId_quiet PySem.F.plain_extend_loop _,codeAny_extend_loopS W0.toS (fits_of_scanBound QA) _ Nw _ ts.length 0 _ _ _ rfl (uN _)
  (W0.frame 0 _ _ jL λb hb u e=>VC b u (λz=>Nw (z ▸ hb)) e) XI (ItemsOf.nil _) λs' acc' c' hm hL' GL=>?_⟩
 show wpAny _ A (load s.heap.objs.size>>=_) _ _ s';refine wX (wpAny_load hL' ?_);rw[←zk]at GL;refine wY ?_;show Q acc'.toList s';rw[Db GL];refine hQ s' vs (λb u e=>hm.heap b u (λhb=>?_) (VC b u (vS (vX e)) (hk _ _ (vZ _ e)))) hm.gens hm.os zk gI GG;have hl:=vX e;simp only[List.mem_cons,List.not_mem_nil,or_false]at hb;rcases hb with rfl|rfl
 ·exact absurd hl (Nat.lt_irrefl _)
 ·rw[QB]at Hl;exact absurd (vQ hl (Nat.le_of_succ_le Hl)) (Nat.lt_irrefl _)
theorem Ai (hh:A.handled=none)(hS:iW prog w s.heap S ts)(um:ts.length<64)
  (hQ:∀(s1:Shared)(h':Heap)(a:Addr)(out:Array Value)(n:Nat)(Lf:List Str),(∀b u,s.heap.get? b=some u->s1.heap.get? b=some u)->s1.os=s.os->s1.gens=s.gens->(∀b u,s1.heap.get? b=some u->h'.get? b=some u)->s1.heap.objs.size<=a->h'.get? a=some (seqObj "list" out n) ->
   StrsAre out.toList Lf->Lf.Perm ts->sortedS Lf=true->Q (.ref a) { s1 with heap:=h' }):
  wpAny (model prog w) A (call (.builtin "sorted") [.ref S]) Q E s:=by
 refine Calls.call_function_entry kind_sorted plain_sorted entry_sorted (args_sorted1 _) ?_;unfold Builtin.«sorted»;refine wX (m:=checkCount "sorted" 1 1 _) (wY ?_);refine wX (xT (A:=A.in1) (by exact hh) hS λs1 vs hk hg J7 zk gI GG=>?_);have jL:StrsAre vs (vs.map strOf):=strsAre_map vs GG;refine wX (wpAny_newList ?_ (by rw[zk,sizeLine_eq];omega));have DS:(s1.heap.push (seqObj "list" vs.toArray 0)).get? s1.heap.objs.size=some (seqObj "list" vs.toArray 0):=vY _ rfl;show wpAny _ _ _ _ _ { s1 with heap:=s1.heap.push (seqObj "list" vs.toArray 0) };refine wX (wpAny_holding (wpAny_call_entry slot_list_sort ⟨_,DS,rfl⟩ entry_list_sort (list_sort_treeK strKind_oneLt DS jL.keysOf (λv₁ v₂ aD e=>keyKind_strs (by rw[←e];exact jL)) (by rw[zk];exact um) λjS a1 a2=>⟨_,rfl,?_⟩) (args_list_sort _)));obtain⟨Lf,b1,b2,b3⟩:=sorted_out_str jL a1 a2;obtain⟨e,he⟩:=sortedHeap_at (out:=(arrOf jS).map (·.2)) DS;refine wY ⟨_,rfl,hQ s1 _ _ _ e Lf hk J7 hg (λb u q=>?_) (vT _) he b1 (b2.trans gI) b3⟩;have hl:=vX q;rw[sortedHeap_old (vS hl) (by rw[size_push'];exact Nat.lt_succ_of_lt hl)];exact vZ _ q
end
end DL
namespace DL
open PySem PySem.Spec PyProof.Rows L2
def vn (a b:Str):Prop:=¬b.cps.toList<a.cps.toList
theorem Bl:ltCps b.cps.toList a.cps.toList=false↔vn a b:=by rw[ltCps_eq,decide_eq_false_iff_not];rfl
theorem tq (h:vn a b)(k:vn b c):vn a c:=by
 unfold vn at *;exact List.not_lt.mpr (List.le_trans (List.not_lt.mp h) (List.not_lt.mp k))
theorem Ff (h:vn a b)(k:vn b a):a=b:=by
 have e:a.cps.toList=b.cps.toList:=List.le_antisymm (List.not_lt.mp h) (List.not_lt.mp k);obtain⟨a⟩:=a;obtain⟨b⟩:=b;have:a=b:=Array.toList_inj.mp e;rw[this]
noncomputable def Aj (x:Str):List Str->List Str
 |[]=>[x]
 |y::r=>if ltCps y.cps.toList x.cps.toList then y::Aj x r else x::y::r
noncomputable def kn (l:List Str):List Str:=l.foldr Aj []
theorem nB (x:Str):∀l,(Aj x l).Perm (x::l)
 |[]=>List.Perm.refl _
 |y::r=>by
  unfold Aj;split
  ·exact((nB x r).cons y).trans (List.Perm.swap x y r)
  ·exact List.Perm.refl _
theorem fg:∀l,(kn l).Perm l
 |[]=>List.Perm.refl _
 |x::l=>(nB x (kn l)).trans ((fg l).cons x)
theorem tu (x:Str):∀l,l.Pairwise vn->(Aj x l).Pairwise vn
 |[],_=>by simp[Aj]
 |y::r,h=>by
  obtain⟨h1,h2⟩:=List.pairwise_cons.mp h;unfold Aj;split
  ·rename_i hl;refine List.pairwise_cons.mpr ⟨λz hz=>?_,tu x r h2⟩;rcases vP ((nB x r).mem_iff.mp hz)with rfl|hz
   ·rw[ltCps_eq,decide_eq_true_eq]at hl;exact λk=>List.lt_irrefl _ (List.lt_trans hl k)
   ·exact h1 z hz
  ·rename_i hl;rw[Bool.not_eq_true]at hl;have Ov:vn x y:=Bl.mp hl;refine List.pairwise_cons.mpr ⟨λz hz=>?_,h⟩;rcases vP hz with rfl|hz
   ·exact Ov
   ·exact tq Ov (h1 z hz)
theorem pQ:∀l,(kn l).Pairwise vn
 |[]=>List.Pairwise.nil
 |x::l=>tu x _ (pQ l)
theorem ot:∀(l:List Str)(p:Str),risingS p l=true->(p::l).Pairwise vn
 |[],p,_=>List.pairwise_singleton _ _
 |x::r,p,h=>by
  have h':(!ltCps x.cps.toList p.cps.toList && risingS x r)=true:=h;rw[vC]at h';have VD:vn p x:=Bl.mp (by simpa using h'.1);have ih:=ot r x h'.2;refine List.pairwise_cons.mpr ⟨λz hz=>?_,ih⟩;rcases vP hz with rfl|hz
  ·exact VD
  ·exact tq VD ((List.pairwise_cons.mp ih).1 z hz)
theorem xU:∀(l:List Str),sortedS l=true->l.Pairwise vn
 |[],_=>List.Pairwise.nil
 |x::r,h=>ot r x h
theorem xV (a:Str):vn a a:=List.lt_irrefl _
theorem pR:∀(l1 l2:List Str),l1.Perm l2->l1.Pairwise vn->l2.Pairwise vn->l1=l2
 |[],l2,p,_,_=>(List.nil_perm.mp p).symm
 |x::r1,[],p,_,_=>absurd p.length_eq (by simp)
 |x::r1,y::r2,p,h1,h2=>by
  have Ov:vn x y:=by
   rcases vP (p.mem_iff.mpr (mX ..))with z|z
   ·rw[z];exact xV _
   ·exact(List.pairwise_cons.mp h1).1 y z
  have TQ:vn y x:=by
   rcases vP (p.mem_iff.mp (mX ..))with z|z
   ·rw[z];exact xV _
   ·exact(List.pairwise_cons.mp h2).1 x z
  have e:=Ff Ov TQ;subst e;rw[pR r1 r2 (List.Perm.cons_inv p) (List.pairwise_cons.mp h1).2 (List.pairwise_cons.mp h2).2]
theorem tz (p:l'.Perm l)(h:sortedS l'=true):l'=kn l:=pR _ _ (p.trans (fg l).symm) (xU _ h) (pQ l)
section
variable {X:Cx}
noncomputable def Fg (X:Cx)(S:Addr)(ts:List Str):HO:=.ext λh=>iW X.prog X.w h S ts
theorem t6 (I:Inv X ae σ H s)(k:∀b u,s.heap.get? b=some u->s1.heap.get? b=some u)(ho:s1.os=s.os)(hg:s1.gens=s.gens):Inv X ae σ H s1:=by
 have I1:=I.step (g':=s.gens) (d':=s1.drawn) (t':=s1.toks) (h':=s1.heap) (H':=H) (ch:=[]) (λ_ z=>nomatch z) (λb o _ _ _ e _=>k b o e) (λb o _ _ _ e _=>⟨o.slots,k b o e⟩) (λ_ _ _ _ n=>n)
  (λb o _ e=>⟨o,k b o e⟩) (λ_ _ e=>e) (λ_ _ _ e=>e) (λ_ _ e=>e) (λm hm=>?_) (I.hok.kept k) I.bare
 ·obtain⟨h1,g1,d1,t1,o1⟩:=s1;cases ho;cases hg
  exact I1
 ·obtain⟨o,es,ep,ho,r⟩:=hm;exact⟨o,es,ep,k _ o ho,r⟩
theorem xW (hc:X.calm=true):bP X (.type "set") (λxs H Q=>∃p ys ss,xs=[.ref p]/\iF X.K H p ys/\(∀its,aW ys its->StrsAre its ss)/\ss.length<4000/\∀S,H S=none->Q (.ref S) (upd H S (Fg X S (iH ss)))):=by
 intro ae s σ H xs us Q I r h;obtain⟨p,ys,ss,rfl,hq,hs,um,q⟩:=h;obtain⟨u,rfl,rx⟩:=gM r;cases rx
 obtain⟨its,r',pl,hz⟩:=I.list hq;have jL:=hs its r';have bL:its.length=ss.length:=by rw[←jL.strs,vI]
 refine pN (I.ok.hd hc) pl.isList (by simpa using jL) (by simp only[vH];unfold scanBound;omega) λh' tk hS hk=>?_;refine⟨.ref s.heap.objs.size,_,I.laid (t':=tk) (λb u e=>hk b u (vX e) e) (vT _) ?_,rfl,q _ (I.hok.fresh (vT _))⟩;refine⟨hS,?_,λh1 h2 z k=>z.at k⟩;obtain⟨o,_,_,_,ho,_⟩:=hS;exact⟨o,ho⟩
theorem oV (hc:X.calm=true):bP X (.builtin "sorted") (λxs H Q=>∃S ts,xs=[.ref S]/\H S=some (Fg X S ts)/\ts.length<64/\∀l,H l=none->Q (.ref l) (upd H l (.lst ((kn ts).map .str)))):=by
 intro ae s σ H xs us Q I r h;obtain⟨S,ts,rfl,hS,um,q⟩:=h;obtain⟨u,rfl,rx⟩:=gM r;cases rx
 have hT:iW X.prog X.w s.heap S ts:=(I.hok S _ hS).1;refine Ai (I.ok.hd hc) hT um λs1 h' a out n Lf k1 ho hg k2 hp he jL gI rX=>?_;have e:=tz gI rX;subst e;have I1:=t6 I k1 ho hg;have hv:∀ {its:List Value}{zs:List Str},StrsAre its zs->aW (zs.map V.str) its:=λz=>by
  induction z with
  |nil=>exact .nil
  |cons x t _ ih=>exact .cons ⟨t,rfl⟩ ih
 refine⟨.ref a,_,I1.laid (t':=s1.toks) k2 hp (show bO X.prog X.w _ h' _ (.lst _)from ⟨?_,out.toList,n,hv jL,he⟩),rfl,q _ (I1.hok.fresh hp)⟩;rw[vI,(fg ts).length_eq,sizeLine_eq];omega
end
@[simp] def gA:D->Option (D×Bool)
 |.lst ds=>(fN ds).bind λss=>if ss.length<64 then some (.lst ((kn (iH ss)).map .str),true)else none
 |_=>none
@[simp] def Rx:D->Option (D×Bool)
 |.lst ds=>(fN ds).bind λss=>if ss.length<4000 then some (.int ((iH ss).length:Nat),false)else none
 |_=>none
theorem mv:bootBuiltins "sorted" = some (.builtin "sorted"):=by decide +kernel
theorem PJ:bootBuiltins "set" = some (.type "set"):=by decide +kernel
theorem mw {K:PySem.W.Frag}{N:Hp}:∀(zs:List Str),IsL K N (zs.map V.str) (zs.map D.str)
 |[]=>.nil
 |z::zs=>.cons (.str z) (mw zs)
section
variable {X:Cx}{e:Expr}{pos pos2 p p2:Pos}
theorem pT (hc:X.calm=true)(m1:X.mg "sorted" = none)(m2:X.mg "set" = none)(he:JE X e f)(g1:Gl X "sorted":=by rfl)(g2:Gl X "set":=by rfl)
  (h1:starEach [e] X.env=(false,eval e X.env)::starEach [] X.env:=by rfl):JE X (.Call (.Name "sorted" p) [.Call (.Name "set" p2) [e] [] pos2] [] pos) (f1 gA f):=by
 refine PE.to (wW (oV hc) g1 m1 mv (iI (sK (xW hc) g2 m2 PJ (iI he jX h1) (he:=h1)) jX)) λσ H Q q=>?_;obtain⟨B,ρ,d',bb,sB,r,ee,q⟩:=q;obtain⟨x1,ex,ee⟩:=oX ee;refine⟨B,ρ,x1.1,x1.2,sB,r,ex,λv H1 N1 xt i1 fr=>?_⟩;obtain⟨xd,xb⟩:=x1;cases i1<;>try (simp[gA]at ee;done)
 rename_i l0 vs ds h hl;simp only[gA]at ee;obtain⟨ss,ez,ee⟩:=oX ee;split at ee
 ·rename_i um;cases ee
  refine⟨_,_,ss,rfl,xt.nh.seq h,λits r'=>jl r' hl ez,by omega,λS hS=>⟨S,_,rfl,aE,Nat.lt_of_le_of_lt (pM ss) um,λl DH=>?_⟩⟩;have x2:=Ext.laid (o:=Fg X S (iH ss)) xt.nh hS;have x3:=Ext.laid (o:=.lst ((kn (iH ss)).map V.str)) x2.nh DH;have XM:H l=none:=((xt.trans x2).hh).free DH;exact q _ _ _ ((xt.trans x2).trans x3) (.lst (iF.of aE) (mw _)) λ_=>⟨_,_,_,rfl,rfl,XM,aE,mw _⟩
 ·cases ee
end
end DL
namespace DL
open PySem PySem.Spec PySem.W PyProof.Rows
inductive Run (n:Nat)(lt:Nat->Nat->Bool){α:Type}:KasT α->α->Prop where
 |ret (a:α):Run n lt (.ret a) a
 |ask {i j:Nat}{k:Bool->KasT α}{a:α}(hi:i<n) (hj:j<n) (h:Run n lt (k (lt i j)) a):Run n lt (.ask i j k) a
theorem Run.bind {n:Nat}{lt:Nat->Nat->Bool}{α β:Type}{t:KasT α}{f:α->KasT β}{a:α}{b:β}(h:Run n lt t a)(k:Run n lt (f a) b):Run n lt (t.bind f) b:=by
 induction h with
 |ret a=>exact k
 |ask hi hj _ ih=>exact .ask hi hj (ih k)
theorem Run.wp {n:Nat}{lt:Nat->Nat->Bool}{α:Type}{VE:Nat->Nat->(Bool->Shared->Prop)->Shared->Prop}{Q:α->Shared->Prop}{t:KasT α}{a:α}(J:Shared->Prop)
  (hc:∀i j C s,i<n->j<n->J s->(∀s',J s'->C (lt i j) s')->VE i j C s) (h:Run n lt t a):∀ {s:Shared},J s->(∀s',J s'->Q a s')->t.kasWp VE Q s:=by
 induction h with
 |ret a=>intro s hJ hQ;exact hQ s hJ
 |ask hi hj _ ih=>intro s hJ hQ;exact hc _ _ _ _ hi hj hJ λs' hJ'=>ih hJ' hQ
section
variable {n:Nat}{rk:Nat->Int}
noncomputable abbrev pU (rk:Nat->Int)(i j:Nat):Bool:=decide (rk i<rk j)
noncomputable def cr (rk:Nat->Int)(p:Array Nat)(k:Nat):Int:=rk (p.getD k 0)
structure nj (n:Nat)(p:Array Nat):Prop where
 size:p.size=n
 perm:p.toList.Perm (List.range n)
theorem nj.lt {p:Array Nat}(h:nj n p){k:Nat}(hk:k<n):p.getD k 0<n:=by
 have fG:k<p.size:=by rw[h.size];exact hk
 have:p.getD k 0=p[k]:=by rw[Array.getD_eq_getD_getElem?,Array.getElem?_eq_getElem fG];rfl
 rw[this];exact List.mem_range.mp (h.perm.mem_iff.mp (by simp))
theorem nj.rev {p:Array Nat}(h:nj n p)(i j:Nat):nj n (kas_rev p i j) :=
 ⟨(mirror_size _ _ _ _).trans h.size,(Array.perm_iff_toList_perm.mp (mirror_perm p i j _)).trans h.perm⟩
theorem nj.bub {p:Array Nat}(h:nj n p)(k d:Nat):nj n (bubble p k d) :=
 ⟨(bubble_size _ _ _).trans h.size,(Array.perm_iff_toList_perm.mp (bubble_perm p k d)).trans h.perm⟩
theorem vp {p:Array Nat}{i j:Nat}(hj:j<=p.size)(k:Nat):cr rk (kas_rev p i j) k=if i<=k/\k<j then cr rk p (i+j - 1 - k)else cr rk p k:=by
 unfold cr kas_rev;rw[Array.getD_eq_getD_getElem?,getElem?_mirror_all hj];split<;>rw[Array.getD_eq_getD_getElem?]
theorem Fh {p:Array Nat}{src d:Nat}(hs:src<p.size)(hd:d<=src)(k:Nat):cr rk (bubble p src d) k=if k=src - d then cr rk p src else if src - d<k/\k<=src then cr rk p (k - 1)else cr rk p k:=by
 unfold cr;simp only[Array.getD_eq_getD_getElem?];rw[getElem?_bubble hs d hd];repeat' split
 all_goals rfl
def Up (rk:Nat->Int)(p:Array Nat)(m:Nat):Prop:=∀i j,i<=j->j<m->cr rk p i<=cr rk p j
def vq (rk:Nat->Int)(p:Array Nat)(m:Nat):Prop:=∀i j,i<=j->j<m->cr rk p j<=cr rk p i
theorem MA (p:Array Nat):Up rk p 1:=λi j h1 h2=>by
 have:i=j:=by omega
 subst this;exact Int.le_refl _
theorem vt {p:Array Nat}(h:nj n p){r:Nat}(hr:r<=n):∀(f m:Nat),r - m=f->1<=m->m<=r->Up rk p m->∃m',Run n (pU rk) (kas_asc p f m) m'/\m<=m'/\m'<=r/\Up rk p m'/\(m'<r->cr rk p m'<cr rk p (m' - 1))
 |0,m,hf,h1,hm,hu=>⟨m,.ret m,vT _,hm,hu,λz=>by omega⟩
 |f+1,m,hf,h1,hm,hu=>by
  have a1:=h.lt (k:=m) (by omega);have a2:=h.lt (k:=m - 1) (by omega);by_cases hc:cr rk p m<cr rk p (m - 1)
  ·refine⟨m,.ask a1 a2 ?_,vT _,hm,hu,λ_=>hc⟩;have:pU rk (p.getD m 0) (p.getD (m - 1) 0)=true:=decide_eq_true hc;rw[this,if_pos rfl];exact .ret m
  ·have Hm:Up rk p (m+1):=λi j zn hj=>by
    by_cases e:j=m
    ·subst e;by_cases e2:i=j
     ·subst e2;exact Int.le_refl _
     ·have:=hu i (j - 1) (by omega) (by omega);omega
    ·exact hu i j zn (by omega)
   obtain⟨m',q1,q2,q3,q4,q5⟩:=vt h hr f (m+1) (by omega) (by omega) (by omega) Hm;refine⟨m',.ask a1 a2 ?_,by omega,q3,q4,q5⟩;have:pU rk (p.getD m 0) (p.getD (m - 1) 0)=false:=decide_eq_false hc;rw[this,if_neg uX];exact q1
def IA (rk:Nat->Int)(p:Array Nat)(m q:Nat):Prop:=q+1<=m/\∀k,m - (q+1)<=k->k<m->cr rk p k=cr rk p (m - 1)
theorem xX {p:Array Nat}{m q:Nat}(hs:m<=p.size)(hf:IA rk p m q)(k:Nat):cr rk (kas_rev p (m - (q+1)) m) k=cr rk p k:=by
 rw[vp hs];split
 ·rename_i hk;have h0:=hf.1;rw[hf.2 k hk.1 hk.2,hf.2 _ (by omega) (by omega)]
 ·rfl
theorem Bm {p p':Array Nat}{m:Nat}(e:∀k,cr rk p' k=cr rk p k)(h:vq rk p m):vq rk p' m:=λi j h1 h2=>by rw[e,e];exact h i j h1 h2
theorem pV (p:Array Nat){m:Nat}(h:1<=m):IA rk p m 0:=⟨h,λk h1 h2=>by
 have:k=m - 1:=by omega
 rw[this]⟩
theorem mz {r:Nat}(hr:r<=n):∀(f:Nat)(p:Array Nat)(m q:Nat),nj n p->r - m=f->1<=m->m<=r->vq rk p m->IA rk p m q->∃p' m' q',Run n (pU rk) (kas_desc f p m q) (p',m',q')/\nj n p'/\m<=m'/\m'<=r/\vq rk p' m'/\IA rk p' m' q'
 |0,p,m,q,h,hf,h1,hm,hd,hq=>⟨p,m,q,.ret _,h,vT _,hm,hd,hq⟩
 |f+1,p,m,q,h,hf,h1,hm,hd,hq=>by
  have a1:=h.lt (k:=m) (by omega);have a2:=h.lt (k:=m - 1) (by omega);have step:∀p':Array Nat,(∀k,cr rk p' k=cr rk p k)->cr rk p m<=cr rk p (m - 1)->vq rk p' (m+1):=λp' e JH i j zn hj=>by
   rw[e,e];by_cases z:j=m
   ·subst z;by_cases z2:i=j
    ·subst z2;exact Int.le_refl _
    ·have:=hd i (j - 1) (by omega) (by omega);omega
   ·exact hd i j zn (by omega)
  by_cases hc:cr rk p m<cr rk p (m - 1)
  ·have rS:pU rk (p.getD m 0) (p.getD (m - 1) 0)=true:=decide_eq_true hc;by_cases hq0:q > 0
   ·have e:=xX (p:=p) (by rw[h.size];omega) hq;obtain⟨p',m',q',g1,g2,g3,g4,g5,g6⟩:=mz hr f (kas_rev p (m - (q+1)) m) (m+1) 0 (h.rev _ _) (by omega) (by omega) (by omega) (step _ e (by omega)) (pV _ (by omega));refine⟨p',m',q',.ask a1 a2 ?_,g2,by omega,g4,g5,g6⟩;rw[rS,if_pos rfl,if_pos hq0];exact g1
   ·obtain⟨p',m',q',g1,g2,g3,g4,g5,g6⟩:=mz hr f p (m+1) 0 h (by omega) (by omega) (by omega) (step _ (λ_=>rfl) (by omega)) (pV _ (by omega));refine⟨p',m',q',.ask a1 a2 ?_,g2,by omega,g4,g5,g6⟩;rw[rS,if_pos rfl,if_neg hq0];exact g1
  ·have rS:pU rk (p.getD m 0) (p.getD (m - 1) 0)=false:=decide_eq_false hc;by_cases wL:cr rk p (m - 1)<cr rk p m
   ·have NA:pU rk (p.getD (m - 1) 0) (p.getD m 0)=true:=decide_eq_true wL;refine⟨p,m,q,.ask a1 a2 ?_,h,vT _,hm,hd,hq⟩;rw[rS,if_neg uX];refine .ask a2 a1 ?_;rw[NA,if_pos rfl];exact .ret _
   ·have NA:pU rk (p.getD (m - 1) 0) (p.getD m 0)=false:=decide_eq_false wL;have he:cr rk p m=cr rk p (m - 1):=by omega
    obtain⟨p',m',q',g1,g2,g3,g4,g5,g6⟩:=mz hr f p (m+1) (q+1) h (by omega) (by omega) (by omega) (step _ (λ_=>rfl) (by omega)) ⟨by have:=hq.1;omega,λk k1 k2=>by
     rw[Nat.add_sub_cancel];by_cases z:k=m
     ·rw[z]
     ·rw[hq.2 k (by omega) (by omega),he]⟩
    refine⟨p',m',q',.ask a1 a2 ?_,g2,by omega,g4,g5,g6⟩;rw[rS,if_neg uX];refine .ask a2 a1 ?_;rw[NA,if_neg uX];exact g1
theorem xY {r:Nat}(hr:r<=n){p:Array Nat}(h:nj n p){m:Nat}(h1:1<=m)(hm:m<=r)(hd:vq rk p m):∃m' p',Run n (pU rk) (kas_tail3 m r p) (m',p')/\nj n p'/\1<=m'/\m'<=r/\Up rk p' m':=by
 have hu:Up rk (kas_rev p 0 m) m:=λi j zn hj=>by
  rw[vp (by rw[h.size];omega),vp (by rw[h.size];omega),if_pos (by omega),if_pos (by omega)];exact hd _ _ (by omega) (by omega)
 obtain⟨m',q1,q2,q3,q4,_⟩:=vt (h.rev 0 m) hr (r - m) m rfl h1 hm hu;exact⟨m',_,q1.bind (.ret _),h.rev 0 m,by omega,q3,q4⟩
theorem xZ {r:Nat}(hr:r<=n){p:Array Nat}(h:nj n p){m:Nat}(hm:m+1<=r)(hd:vq rk p (m+1)):∃m' p',Run n (pU rk) (kas_descPart m r p) (m',p')/\nj n p'/\1<=m'/\m'<=r/\Up rk p' m':=by
 obtain⟨p1,m1,q1,g1,g2,g3,g4,g5,g6⟩:=mz hr (r - (m+1)) p (m+1) 0 h rfl (by omega) hm hd (pV _ (by omega));by_cases hq:q1 > 0
 ·obtain⟨m',p',k1,k2,k3,k4,k5⟩:=xY hr (g2.rev (m1 - (q1+1)) m1) (m:=m1) (by omega) g4 (Bm (xX (by rw[g2.size];omega) g6) g5);exact⟨m',p',g1.bind (by dsimp only;rw[if_pos hq];exact k1),k2,k3,k4,k5⟩
 ·obtain⟨m',p',k1,k2,k3,k4,k5⟩:=xY hr g2 (m:=m1) (by omega) g4 g5;exact⟨m',p',g1.bind (by dsimp only;rw[if_neg hq];exact k1),k2,k3,k4,k5⟩
theorem Dc {p:Array Nat}(h:nj n p)(hn:1<=n):∃m' p',Run n (pU rk) (kas_count n p) (m',p')/\nj n p'/\1<=m'/\m'<=n/\Up rk p' m':=by
 obtain⟨m,q1,q2,q3,q4,q5⟩:=vt h (vT n) (n - 1) 1 rfl (vT 1) hn (MA (rk:=rk) p);by_cases e:m=n
 ·exact⟨m,p,q1.bind (by rw[if_pos (by simp[e])];exact .ret _),h,q2,q3,q4⟩
 ·have fR:=q5 (by omega);have e1:¬(m == n)=true:=by simp[e]
  by_cases Ow:m > 1
  ·by_cases hc:cr rk p 0<cr rk p (m - 1)
   ·refine⟨m,p,q1.bind ?_,h,q2,q3,q4⟩;rw[if_neg e1,if_pos Ow];refine .ask (h.lt (by omega)) (h.lt (by omega)) ?_;have:pU rk (p.getD 0 0) (p.getD (m - 1) 0)=true:=decide_eq_true hc;rw[this,if_pos rfl];exact .ret _
   ·have lf:∀k,k<m->cr rk p k=cr rk p 0:=λk hk=>by
     have z1:=q4 0 k (by omega) hk;have z2:=q4 k (m - 1) (by omega) (by omega);omega
    have er:∀k,cr rk (kas_rev p 0 m) k=cr rk p k:=λk=>by
     rw[vp (by rw[h.size];omega)];split
     ·rename_i z;rw[lf _ (by omega),lf k z.2]
     ·rfl
    have hd:vq rk p (m+1):=λi j zn hj=>by
     by_cases z:j=m
     ·subst z;by_cases z2:i=j
      ·subst z2;exact Int.le_refl _
      ·rw[lf i (by omega)];rw[lf (j - 1) (by omega)]at fR;omega
     ·rw[lf i (by omega),lf j (by omega)];exact Int.le_refl _
    obtain⟨m',p',k1,k2,k3,k4,k5⟩:=xZ (vT n) (h.rev 0 m) (m:=m) (by omega) (Bm er hd);refine⟨m',p',q1.bind ?_,k2,k3,k4,k5⟩;rw[if_neg e1,if_pos Ow];refine .ask (h.lt (by omega)) (h.lt (by omega)) ?_;have:pU rk (p.getD 0 0) (p.getD (m - 1) 0)=false:=decide_eq_false hc;rw[this,if_neg uX];exact k1
  ·have em:m=1:=by omega
   subst em;have hd:vq rk p 2:=λi j zn hj=>by
    by_cases z2:i=j
    ·subst z2;exact Int.le_refl _
    ·have:i=0:=by omega
     have:j=1:=by omega
     subst_vars;have:=fR;simp at this;omega
   obtain⟨m',p',k1,k2,k3,k4,k5⟩:=xZ (vT n) h (m:=1) (by omega) hd;refine⟨m',p',q1.bind ?_,k2,k3,k4,k5⟩;rw[if_neg e1,if_neg Ow];exact k1
theorem nD {p:Array Nat}(h:nj n p){k:Nat}(hk:k<n)(hu:Up rk p k):∀(f l r:Nat),r - l<=f->l<=r->r<=k->(∀i,i<l->cr rk p i<=cr rk p k)->(∀i,r<=i->i<k->cr rk p k<cr rk p i) ->
  ∃l',Run n (pU rk) (kas_place p k f l r) l'/\l'<=k/\(∀i,i<l'->cr rk p i<=cr rk p k)/\(∀i,l'<=i->i<k->cr rk p k<cr rk p i)
 |0,l,r,hf,hl,hr,h1,h2=>⟨l,.ret l,by omega,h1,λi a b=>h2 i (by omega) b⟩
 |f+1,l,r,hf,hl,hr,h1,h2=>by
  by_cases hge:l ≥ r
  ·refine⟨l,?_,by omega,h1,λi a b=>h2 i (by omega) b⟩;unfold kas_place;rw[if_pos hge];exact .ret l
  ·by_cases hc:cr rk p k<cr rk p ((l+r) / 2)
   ·obtain⟨l',q1,q2,q3,q4⟩:=nD h hk hu f l ((l+r) / 2) (by omega) (by omega) (by omega) h1 λi a b=>by
     have:=hu ((l+r) / 2) i a b;omega
    refine⟨l',?_,q2,q3,q4⟩;unfold kas_place;rw[if_neg hge];refine .ask (h.lt (by omega)) (h.lt (by omega)) ?_;have:pU rk (p.getD k 0) (p.getD ((l+r) / 2) 0)=true:=decide_eq_true hc;rw[this,if_pos rfl];exact q1
   ·obtain⟨l',q1,q2,q3,q4⟩:=nD h hk hu f ((l+r) / 2+1) r (by omega) (by omega) hr (λi a=>by
     have:=hu i ((l+r) / 2) (by omega) (by omega);omega) h2
    refine⟨l',?_,q2,q3,q4⟩;unfold kas_place;rw[if_neg hge];refine .ask (h.lt (by omega)) (h.lt (by omega)) ?_;have:pU rk (p.getD k 0) (p.getD ((l+r) / 2) 0)=false:=decide_eq_false hc;rw[this,if_neg uX];exact q1
theorem Bn:∀(f:Nat)(p:Array Nat)(k:Nat),nj n p->n - k=f->k<=n->Up rk p k->∃p',Run n (pU rk) (kas_bin f p k) p'/\nj n p'/\Up rk p' n
 |0,p,k,h,hf,hk,hu=>⟨p,.ret p,h,(show k=n by omega) ▸ hu⟩
 |f+1,p,k,h,hf,hk,hu=>by
  have fG:k<n:=by omega
  obtain⟨l,q1,q2,q3,q4⟩:=nD h fG hu k 0 k (by omega) (by omega) (vT _) (λi z=>by omega) (λi a b=>by omega);have hsz:k<p.size:=by rw[h.size];exact fG
  have Hm:Up rk (bubble p k (k - l)) (k+1):=λi j zn hj=>by
   rw[Fh hsz (by omega),Fh hsz (by omega)];have e:k - (k - l)=l:=by omega
   rw[e];by_cases i1:i=l
   ·rw[if_pos i1];by_cases j1:j=l
    ·rw[if_pos j1];exact Int.le_refl _
    ·rw[if_neg j1,if_pos (by omega)];have:=q4 (j - 1) (by omega) (by omega);omega
   ·rw[if_neg i1];by_cases i2:l<i/\i<=k
    ·rw[if_pos i2,if_neg (by omega),if_pos (by omega)];exact hu _ _ (by omega) (by omega)
    ·rw[if_neg i2];by_cases j1:j=l
     ·rw[if_pos j1];exact q3 i (by omega)
     ·rw[if_neg j1];by_cases j2:l<j/\j<=k
      ·rw[if_pos j2];exact hu _ _ (by omega) (by omega)
      ·rw[if_neg j2];exact hu _ _ zn (by omega)
  obtain⟨p',k1,k2,k3⟩:=Bn f (bubble p k (k - l)) (k+1) (h.bub _ _) (by omega) (by omega) Hm;exact⟨p',q1.bind k1,k2,k3⟩
theorem ya (hn:1<=n):∃p,Run n (pU rk) (kas_sort n) p/\nj n p/\Up rk p n:=by
 have h0:nj n (List.toArray (List.range n)):=⟨by simp,by simp⟩;obtain⟨m,p,q1,q2,q3,q4,q5⟩:=Dc (rk:=rk) h0 hn;by_cases e:m<n
 ·have XN:max m 1=m:=by omega
  obtain⟨p',k1,k2,k3⟩:=Bn (n - max m 1) p (max m 1) q2 rfl (by omega) (by rw[XN];exact q5);exact⟨p',q1.bind (by dsimp only;rw[if_pos e];exact k1),k2,k3⟩
 ·have:m=n:=by omega
  subst this;exact⟨p,q1.bind (by dsimp only;rw[if_neg e];exact .ret _),q2,q5⟩
end
theorem kR {a b c:List Int}(h:a<b)(k:b<c):a<c:=List.lt_trans h k
theorem De {a b c:List Int}(h:¬b<a)(k:¬c<b):¬c<a:=List.not_lt.mpr (List.le_trans (List.not_lt.mp h) (List.not_lt.mp k))
theorem Fi {a b:List Int}(h:¬b<a)(k:¬a<b):a=b:=List.le_antisymm (List.not_lt.mp h) (List.not_lt.mp k)
section
variable {α:Type}(f:α->List Int)
def Fj (a b:α):Prop:=¬f b<f a
noncomputable def nE (x:α):List α->List α
 |[]=>[x]
 |y::r=>if f y<f x then y::nE x r else x::y::r
noncomputable def dw (l:List α):List α:=l.foldr (nE f) []
theorem nF (x:α):∀l,(nE f x l).Perm (x::l)
 |[]=>List.Perm.refl _
 |y::r=>by
  unfold nE;split
  ·exact((nF x r).cons y).trans (List.Perm.swap x y r)
  ·exact List.Perm.refl _
theorem b9:∀l,(dw f l).Perm l
 |[]=>List.Perm.refl _
 |x::l=>(nF f x (dw f l)).trans ((b9 l).cons x)
theorem t7 (x:α):∀l,l.Pairwise (Fj f)->(nE f x l).Pairwise (Fj f)
 |[],_=>by simp[nE]
 |y::r,h=>by
  obtain⟨h1,h2⟩:=List.pairwise_cons.mp h;unfold nE;split
  ·rename_i hl;refine List.pairwise_cons.mpr ⟨λz hz=>?_,t7 x r h2⟩;rcases vP ((nF f x r).mem_iff.mp hz)with rfl|hz
   ·exact λk=>List.lt_irrefl _ (kR hl k)
   ·exact h1 z hz
  ·rename_i hl;refine List.pairwise_cons.mpr ⟨λz hz=>?_,h⟩;rcases vP hz with rfl|hz
   ·exact hl
   ·exact De hl (h1 z hz)
theorem ga:∀l,(dw f l).Pairwise (Fj f)
 |[]=>List.Pairwise.nil
 |x::l=>t7 f x _ (ga l)
theorem t8:∀(l1 l2:List α),(∀x∈l1,∀y∈l1,f x=f y->x=y)->l1.Perm l2->l1.Pairwise (Fj f)->l2.Pairwise (Fj f)->l1=l2
 |[],l2,_,p,_,_=>(List.nil_perm.mp p).symm
 |x::r1,[],_,p,_,_=>absurd p.length_eq (by simp)
 |x::r1,y::r2,hi,p,h1,h2=>by
  have hy:y∈x::r1:=p.mem_iff.mpr (mX ..);have Ov:Fj f x y:=by
   rcases vP hy with z|z
   ·rw[z];exact List.lt_irrefl _
   ·exact(List.pairwise_cons.mp h1).1 y z
  have TQ:Fj f y x:=by
   rcases vP (p.mem_iff.mp (mX ..))with z|z
   ·rw[z];exact List.lt_irrefl _
   ·exact(List.pairwise_cons.mp h2).1 x z
  have e:x=y:=hi x (mX ..) y hy (Fi Ov TQ);subst e;rw[t8 r1 r2 (λa ha b hb=>hi a (mZ _ ha) b (mZ _ hb)) (List.Perm.cons_inv p) (List.pairwise_cons.mp h1).2 (List.pairwise_cons.mp h2).2]
theorem ib (hi:∀x∈l,∀y∈l,f x=f y->x=y)(p:l'.Perm l)(h:l'.Pairwise (Fj f)):l'=dw f l :=
 t8 f _ _ (λx hx y hy=>hi x (p.mem_iff.mp hx) y (p.mem_iff.mp hy)) (p.trans (b9 f l).symm) h (ga f l)
end
theorem lH {α:Type}{p q:α->Bool}(h:∀x,p x=true->q x=true):∀l:List α,(l.filter p).length<=(l.filter q).length
 |[]=>vT _
 |x::l=>by
  have ih:=lH h l;rw[List.filter_cons,List.filter_cons];by_cases z:p x=true
  ·rw[if_pos z,if_pos (h x z)];simp only[vE];omega
  ·rw[if_neg z];split
   ·simp only[vE];omega
   ·exact ih
noncomputable def m4 (cs:List (List Int))(c:List Int):Int:=((cs.filter λx=>decide (x<c)).length:Nat)
theorem IB {cs:List (List Int)}{a b:List Int}(h:¬b<a):m4 cs a<=m4 cs b:=by
 unfold m4;refine Int.ofNat_le.mpr (lH (λx hx=>?_) cs);rw[decide_eq_true_eq]at hx ⊢;rcases List.le_iff_lt_or_eq.mp (List.not_lt.mp h)with z|z
 ·exact kR hx z
 ·rw[←z];exact hx
theorem vv {cs:List (List Int)}{a b:List Int}(ha:a∈cs)(h:a<b):m4 cs a<m4 cs b:=by
 unfold m4;apply Int.ofNat_lt.mpr;induction cs with
 |nil=>simp at ha
 |cons c cs ih=>
  have key:∀l:List (List Int),(l.filter λx=>decide (x<a)).length<=(l.filter λx=>decide (x<b)).length:=λl=>
   lH (λx hx=>by rw[decide_eq_true_eq]at hx ⊢;exact kR hx h) l
  rw[List.filter_cons,List.filter_cons];rcases vP ha with rfl|ha
  ·rw[if_neg (by simp[List.lt_irrefl]),if_pos (by simpa using h)];have:=key cs;simp only[vE];omega
  ·have:=ih ha;by_cases z:c<a
   ·rw[if_pos (by simpa using z),if_pos (by simpa using kR z h)];simp only[vE];omega
   ·rw[if_neg (by simpa using z)];split
    ·simp only[vE];omega
    ·exact this
theorem yc (ha:a∈cs):decide (m4 cs a<m4 cs b)=decide (a<b):=by
 by_cases h:a<b
 ·rw[decide_eq_true h,decide_eq_true (vv ha h)]
 ·rw[decide_eq_false h,decide_eq_false];have:=IB (cs:=cs) h;omega
inductive At where
 |i (n:Int)
 |s (z:Str)
noncomputable def MB:At->List Int
 |.i n=>[n]
 |.s z=>z.cps.toList.map (λ(c:Nat)=>(c:Int)+1)++[0]
noncomputable def cw (xs:List At):List Int:=xs.flatMap MB
noncomputable def aY:List At->List At->Option Bool
 |[],ys=>some (!ys.isEmpty)
 |_::_,[]=>some false
 |.i a::xs,.i b::ys=>if a=b then aY xs ys else some (decide (a<b))
 |.s a::xs,.s b::ys=>if a=b then aY xs ys else some (decide (a.cps.toList<b.cps.toList))
 |_::_,_::_=>none
theorem vw:∀(a b:List Nat)(r r':List Int),(a.map (λ(c:Nat)=>(c:Int)+1)++0::r)<(b.map (λ(c:Nat)=>(c:Int)+1)++0::r')↔a<b∨(a=b/\r<r')
 |[],[],r,r'=>by simp[List.cons_lt_cons_iff]
 |[],y::b,r,r'=>by simp[List.cons_lt_cons_iff]
 |x::a,[],r,r'=>by simp[List.cons_lt_cons_iff];omega
 |x::a,y::b,r,r'=>by
  rw[uY,uY,List.cons_append,List.cons_append,List.cons_lt_cons_iff,vw a b r r',List.cons_lt_cons_iff];constructor
  ·rintro (h|⟨h,k|⟨k1,k2⟩⟩)
   ·exact .inl (.inl (by omega))
   ·exact .inl (.inr ⟨by omega,k⟩)
   ·exact .inr ⟨by rw[k1,show x=y by omega],k2⟩
  ·rintro ((h|⟨h,k⟩)|⟨h,k⟩)
   ·exact .inl (by omega)
   ·exact .inr ⟨by omega,.inl k⟩
   ·injection h with h1 h2;exact .inr ⟨by omega,.inr ⟨h2,k⟩⟩
theorem jm (x:At)(xs:List At):cw (x::xs)=MB x++cw xs:=by unfold cw;rw[uO]
theorem MC (x:At):MB x≠[]:=by cases x<;>simp[MB]
theorem Bo {a b:Str}:a.cps.toList=b.cps.toList↔a=b:=by
 constructor
 ·intro h;obtain⟨a⟩:=a;obtain⟨b⟩:=b;have:a=b:=Array.toList_inj.mp h;rw[this]
 ·rintro rfl;rfl
theorem vx:∀(xs ys:List At)(b:Bool),aY xs ys=some b->b=decide (cw xs<cw ys)
 |[],[],b,h=>by simp[aY]at h;subst h;simp[cw]
 |[],y::ys,b,h=>by
  simp[aY]at h;subst h;rw[jm];cases e:MB y with
  |nil=>exact absurd e (MC y)
  |cons c cs=>simp[cw]
 |x::xs,[],b,h=>by simp[aY]at h;subst h;simp[cw]
 |.i a::xs,.i c::ys,b,h=>by
  rw[aY]at h;rw[jm,jm];show b=decide (a::cw xs<c::cw ys);split at h
  ·rename_i e;subst e;rw[vx xs ys b h];exact decide_eq_decide.mpr (by rw[List.cons_lt_cons_iff];simp)
  ·rename_i e;cases h
   exact decide_eq_decide.mpr (by rw[List.cons_lt_cons_iff];simp[e])
 |.s a::xs,.s c::ys,b,h=>by
  rw[aY]at h;rw[jm,jm];have e0:∀(z:Str)(r:List Int),MB (.s z)++r=z.cps.toList.map (λ(c:Nat)=>(c:Int)+1)++0::r:=λz r=>by simp[MB]
  rw[e0,e0];split at h
  ·rename_i e;subst e;rw[vx xs ys b h];exact decide_eq_decide.mpr (by rw[vw];exact⟨λz=>.inr ⟨rfl,z⟩,λz=>z.elim (λq=>absurd q (List.lt_irrefl _)) (·.2)⟩)
  ·rename_i e;cases h
   exact decide_eq_decide.mpr (by rw[vw,Bo];exact⟨.inl,λz=>z.elim id λq=>absurd q.1 e⟩)
 |.i _::_,.s _::_,b,h=>by simp[aY]at h
 |.s _::_,.i _::_,b,h=>by simp[aY]at h
theorem Ak:∀(xs ys:List At),aY xs ys=some false->aY ys xs=some false->xs=ys
 |[],[],_,_=>rfl
 |[],y::ys,h,_=>by simp[aY]at h
 |x::xs,[],_,h=>by simp[aY]at h
 |.i a::xs,.i c::ys,h,k=>by
  rw[aY]at h k;by_cases e:a=c
  ·subst e;rw[if_pos rfl]at h k;rw[Ak xs ys h k]
  ·rw[if_neg e]at h;rw[if_neg (Ne.symm e)]at k;simp at h k;omega
 |.s a::xs,.s c::ys,h,k=>by
  rw[aY]at h k;by_cases e:a=c
  ·subst e;rw[if_pos rfl]at h k;rw[Ak xs ys h k]
  ·rw[if_neg e]at h;rw[if_neg (Ne.symm e)]at k;simp only[Option.some.injEq,decide_eq_false_iff_not]at h k;exact absurd (Bo.mp (List.le_antisymm (List.not_lt.mp k) (List.not_lt.mp h))) e
 |.i _::_,.s _::_,h,_=>by simp[aY]at h
 |.s _::_,.i _::_,h,_=>by simp[aY]at h
noncomputable def di (ks:List (List At)):Bool:=ks.all λx=>ks.all λy=>(aY x y).isSome
theorem gX (h:di ks=true)(hx:x∈ks)(hy:y∈ks):aY x y=some (decide (cw x<cw y)):=by
 have:=uR (uR h x hx) y hy;obtain⟨b,e⟩:=uU this;rw[e,vx _ _ _ e]
theorem kT (h:di ks=true)(hx:x∈ks)(hy:y∈ks)(e:cw x=cw y):x=y:=by
 refine Ak _ _ ?_ ?_
 ·rw[gX h hx hy,e,decide_eq_false (List.lt_irrefl _)]
 ·rw[gX h hy hx,e,decide_eq_false (List.lt_irrefl _)]
def ye:At->Value->Prop
 |.i n,v=>∃t,v=.int n t
 |.s z,v=>∃t,v=.str z t
def fj (h:Heap)(xs:List At)(v:Value):Prop:=∃a o its n,v=.ref a/\h.get? a=some o/\o.cls=.type "tuple"/\o.data=.seq its n/\Paired ye xs its.toList
theorem fj.keep (x:fj h xs v)(k:∀a o,o.cls=.type "tuple"->h.get? a=some o->h'.get? a=some o):fj h' xs v:=by
 obtain⟨a,o,its,n,e,ho,hc,r⟩:=x;exact⟨a,o,its,n,e,k a o hc ho,hc,r⟩
noncomputable def cW (ks:List (List At)):Bool:=ks.all (λx=>match x with|.i _::_=>true|_=>false) || ks.all (λx=>match x with|.s _::_=>true|_=>false)
section
variable {prog:Program}{w:World}{A:Around}{E:Value->Shared->Prop}{s:Shared}
theorem pW:∀(xs ys:List At)(its gp:List Value)(i:Nat),Paired ye xs its->Paired ye ys gp->aY xs ys=some b->lW=decide (xs.length<ys.length)->Q b s->KatLex prog w A true lW Q (its.zip gp) i s
 |[],ys,_,gp,i,.nil,r2,h,hf,q=>by
  rw[List.zip_nil_left];refine kat_nil ?_;cases ys with
  |nil=>simp[aY]at h;subst h;rw[hf];exact q
  |cons y ys=>simp[aY]at h;subst h;rw[hf];simpa using q
 |x::xs,[],_,_,i,_,.nil,h,hf,q=>by
  rw[List.zip_nil_right];refine kat_nil ?_;simp[aY]at h;subst h;rw[hf];simpa using q
 |.i a::xs,.i c::ys,_,_,i,.cons r1 Nu,.cons r2 r2',h,hf,q=>by
  obtain⟨t,rfl⟩:=r1;obtain⟨u,rfl⟩:=r2;rw[List.zip_cons_cons];refine kat_cons (wpAny_eqBool_int ?_);rw[aY]at h;by_cases e:a=c
  ·rw[if_pos e]at h;rw[show(a == c)=true by simp[e]];exact kat_yes (pW xs ys _ _ (i+1) Nu r2' h (by rw[hf];simp) q)
  ·rw[if_neg e]at h;cases h
   rw[show(a == c)=false by simp[e]];refine kat_no ?_;cases hb:(true && i == 0) with
   |true=>exact oneLt_int q
   |false=>exact kat_one _ _ (PyProof.Rows.lt_int q)
 |.s a::xs,.s c::ys,_,_,i,.cons r1 Nu,.cons r2 r2',h,hf,q=>by
  obtain⟨t,rfl⟩:=r1;obtain⟨u,rfl⟩:=r2;rw[List.zip_cons_cons];refine kat_cons (wpAny_eqBool_str ?_);rw[aY]at h;by_cases e:a=c
  ·rw[if_pos e]at h;rw[decide_eq_true e];exact kat_yes (pW xs ys _ _ (i+1) Nu r2' h (by rw[hf];simp) q)
  ·rw[if_neg e]at h;cases h
   rw[decide_eq_false e];refine kat_no ?_;cases hb:(true && i == 0) with
   |true=>exact oneLt_str q
   |false=>exact kat_one _ _ (PySem.P.lt_str q)
 |.i _::_,.s _::_,_,_,_,_,_,h,_,_=>by simp[aY]at h
 |.s _::_,.i _::_,_,_,_,_,_,h,_,_=>by simp[aY]at h
theorem gb {α β:Type}{F:α->β->Prop}:∀ {l₁:List α}{l₂:List β},Paired F l₁ l₂->l₁.length=l₂.length
 |_,_,.nil=>rfl
 |_,_,.cons _ t=>by simp[gb t]
theorem MD {Q:Bool->Shared->Prop}{xs ys:List At}{x y:Value}{b:Bool}(hx:fj s.heap xs x)(hy:fj s.heap ys y)(h:aY xs ys=some b)(q:Q b s):wpAny (model prog w) A (keyLt' (tuples' true) x y) Q E s:=by
 obtain⟨a,o,its,n,rfl,ho,_,hd,r⟩:=hx;obtain⟨a',o',its',n',rfl,wD,_,D9,r'⟩:=hy;refine kat_lt ho hd wD D9 (pW xs ys _ _ 0 r r' h ?_ q);rw[←vG,←vG,gb r,gb r']
theorem ou:∀ {ks:List (List At)}{vs:List Value},Paired (fj h) ks vs->(∀k∈ks,k≠[])->∃fs,KatTups h vs fs/\fs.length=ks.length/\∀v∈fs,∃k r,(k::r)∈ks/\ye k v
 |_,_,.nil,_=>⟨[],trivial,rfl,by simp⟩
 |k::ks,_,.cons x t,oM=>by
  obtain⟨fs,h1,h2,h3⟩:=ou t λz hz=>oM z (mZ _ hz);obtain⟨a,o,its,n,rfl,ho,hc,hd,r⟩:=x;cases r':its.toList with
  |nil=>
   rw[r']at r;cases r
   exact absurd rfl (oM [] (mX ..))
  |cons v vs=>
   rw[r']at r;obtain⟨p,r1⟩:∃p,its[0]? = some v:=⟨(),by rw[←Array.getElem?_toList,r'];rfl⟩;cases r with
   |cons q qs=>
    rename_i k0 kr;refine⟨v::fs,KatTups.cons ho hc hd r1 h1,by simp[h2],λu hu=>?_⟩;rcases vP hu with rfl|hu
    ·exact⟨k0,kr,mX ..,q⟩
    ·obtain⟨k1,r1,m1,m2⟩:=h3 u hu;exact⟨k1,r1,mZ _ m1,m2⟩
theorem yf (hp:Paired (fj s.heap) ks vs)(hf:cW ks=true)(hn:0<ks.length)(q:Q (tuples' true) s):wpAny (model prog w) A (keyKind' vs.toArray) Q E s:=by
 have oM:∀k∈ks,k≠[]:=λk hk z=>by
  subst z;unfold cW at hf;rw[Bool.or_eq_true]at hf;rcases hf with hf|hf
  ·have:=uR hf [] hk;simp at this
  ·have:=uR hf [] hk;simp at this
 obtain⟨fs,h1,h2,h3⟩:=ou hp oM;unfold cW at hf;rw[Bool.or_eq_true]at hf;rcases hf with hf|hf
 ·refine kat_kind (T:=.type "int") h1 (by omega) (λv hv=>?_) (by decide) q;obtain⟨k,r,m,z⟩:=h3 v hv;have:=uR hf _ m;cases k with
  |i n=>obtain⟨t,rfl⟩:=z;exact .now
  |s z'=>simp at this
 ·refine kat_kind (T:=.type "str") h1 (by omega) (λv hv=>?_) (by decide) q;obtain⟨k,r,m,z⟩:=h3 v hv;have:=uR hf _ m;cases k with
  |s z'=>obtain⟨t,rfl⟩:=z;exact .now
  |i n=>simp at this
end
section
variable {prog:Program}{w:World}{A:Around}{E:Value->Shared->Prop}{s:Shared}
theorem fm {α β:Type}{F:α->β->Prop}(d:α)(e:β):∀ {l₁:List α}{l₂:List β},Paired F l₁ l₂->∀ {i:Nat},i<l₁.length->F (l₁.getD i d) (l₂.getD i e)
 |_,_,.cons r t,0,_=>r
 |_,_,.cons r t,i+1,h=>by
  simp only[List.getD_cons_succ];exact fm d e t (by simpa using h)
 |_,_,.nil,i,h=>by simp at h
def z4 (ks:List (List At))(i:Nat):Int:=m4 (ks.map cw) (cw (ks.getD i []))
theorem Bp {ks:List (List At)}{vs:List Value}(hc:di ks=true)(hp:Paired (fj s.heap) ks vs):∀(i j:Nat)(C:Bool->Shared->Prop)(s1:Shared),i<ks.length->j<ks.length->s1=s->(∀s',s'=s->C (pU (z4 ks) i j) s')->kas_ask prog w A (tuples' true) vs i j C s1:=by
 intro i j C s1 hi hj e hC;subst e;unfold kas_ask;have mi:ks.getD i []∈ks:=by rw[vF,vU hi];exact List.getElem_mem hi
 have mj:ks.getD j []∈ks:=by rw[vF,vU hj];exact List.getElem_mem hj
 refine MD (fm [] Value.none hp hi) (fm [] Value.none hp hj) (gX hc mi mj) ?_;have:=hC s1 rfl;unfold pU z4 at this;rw[yc (uS ⟨_,mi,rfl⟩)]at this;exact this
theorem Df (ho:s.heap.get? a=some (seqObj "list" vs.toArray n))(hk:Paired (fj s.heap) ks vs)(hc:di ks=true)(hf:cW ks=true)(um:vs.length<64)
  (h:∀p:Array Nat,nj vs.length p->Up (z4 ks) p vs.length->P (.done (.ret .none)) { s with heap:=sortedHeap s.heap a vs (List.toArray (p.toList.map λi=>vs.getD i Value.none)) }):
  wpAny (model prog w) A (Builtin.«list.sort» ⟨[.ref a],[]⟩) P E s:=by
 have ha:=vX ho;have bL:ks.length=vs.length:=gb hk;obtain⟨e1,JL⟩:∃e1,(s.heap.update a (Obj.mapSeq λ_=>#[])).get? a=some (seqObj "list" #[] e1):=⟨_,get?_update_seq ho (λ_=>#[])⟩;let h6:Heap:=((s.heap.update a (Obj.mapSeq λ_=>#[])).push (seqObj "tuple" vs.toArray 0)).push (seqObj "list" #[] 0);have Lc:∀b u,b≠a->s.heap.get? b=some u->h6.get? b=some u:=λb u hb q=>
  vZ _ (vZ _ ((Heap.get?_update_ne _ _ _ _ hb).trans q))
 have VF:h6.get? a=some (seqObj "list" #[] e1):=vZ _ (vZ _ JL);have VG:Paired (fj h6) ks vs:=L2.Paired.mapP hk λk v x=>x.keep λb u rS q=>Lc b u (λz=>by
  subst z;rw[ho]at q;cases q;injection rS with z;exact absurd z (by decide)) q
 rw[list_sort_plain];refine wX (listItems_at ho rfl (wX (listUpdate_at ho rfl (wX (seqEpoch_at JL rfl (wX (wpAny_newTuple (wX (wpAny_newList (wpAny_holding ?_))) (by show vs.length<=sizeLine;rw[sizeLine_eq];omega))))))));show wpAny (model prog w) A _ P E { s with heap:=h6 };dsimp only;have GN:∀(st:SortSt)(p:Array Nat),arrOf st=p.map (kas_item (vs.toArray.zip vs.toArray))->failedOf st=none->nj vs.length p->Up (z4 ks) p vs.length ->
   wpAny (model prog w) A (do
    let touched:=(←seqEpoch a) != e1
    Builtin.List.listUpdate (.ref a) λ_=>(arrOf st).map (·.2)
    if let some e:=failedOf st then rule "list.sort.comparison-raised";throw e
    if touched then rule "list.sort.modified";raiseError "ValueError" "list modified during sort"
    ret .none) P E { s with heap:=h6 }:=λst p ea ef ap up=>by
  have eo:(arrOf st).map (·.2)=List.toArray (p.toList.map λi=>vs.getD i Value.none):=kat_snds rfl ea;refine wX (seqEpoch_at VF rfl ?_);refine wX (listUpdate_at VF rfl ?_ (hsz2:=by rw[eo];simp only[vH,vI,vG,ap.size,sizeLine_eq];omega));rw[ef];simp only[bne_self_eq_false,uV,if_false];rw[eo];exact wY (h p ap up)
 by_cases h2:vs.toArray.size<2
 ·rw[if_pos h2,if_pos h2];refine wX (wY ?_);rw[StateT.run_pure];refine wX (wY ?_);have TR:vs.length<2:=by simpa using h2
  refine GN _ (List.toArray (List.range vs.length)) ?_ rfl ⟨by simp,by simp⟩ ?_
  ·show vs.toArray.zip vs.toArray=_;have:=kas_range (vs.toArray.zip vs.toArray);rw[show(vs.toArray.zip vs.toArray).size=vs.length by simp]at this;exact this.symm
  ·intro i j zn hj;have:i=j:=by omega
   subst this;exact Int.le_refl _
 ·rw[if_neg h2,if_neg h2];have DE:2<=vs.length:=by simp at h2;omega
  refine wX (yf (s:={ s with heap:=h6 }) VG hf (by omega) ?_);obtain⟨p,r1,r2,r3⟩:=ya (n:=vs.length) (rk:=z4 ks) (by omega);refine wX (wpAny_mono (kat_run (E:=E) (ks:=vs) (vs:=vs) (κ:=tuples' true) (s:={ s with heap:=h6 }) (Q:=λjS s'=>s'={ s with heap:=h6 }/\arrOf jS=p.map (kas_item (vs.toArray.zip vs.toArray))/\failedOf jS=none)
   (G:=λp' s'=>p'=p/\s'={ s with heap:=h6 }) rfl DE um (λp' jS s' _ e2 e3 e4=>by
    obtain⟨rfl,rfl⟩:=e4;exact⟨rfl,e2,e3⟩) (Run.wp (λs'=>s'={ s with heap:=h6 }) (λi j C s1 hi hj e hC=>Bp (s:={ s with heap:=h6 }) hc VG i j C s1 (by omega) (by omega) e hC) r1 rfl λs' e=>⟨rfl,e⟩)) (λr s' hr=>?_) λ_ _ z=>z)
  obtain⟨⟨⟩,jS⟩:=r;obtain⟨rfl,e2,e3⟩:=hr;exact GN jS p e2 e3 r2 r3
theorem yg (hl:s.heap.IsList l vs.toArray)(hk:Paired (fj s.heap) ks vs)(hc:di ks=true)(hf:cW ks=true)(um:vs.length<64)
  (h:∀p:Array Nat,nj vs.length p->Up (z4 ks) p vs.length->Q (.ref (s.heap.objs.size+1)) { s with heap:=sortedAll s.heap vs (List.toArray (p.toList.map λi=>vs.getD i Value.none)) }):
  wpAny (model prog w) A (call (.builtin "sorted") [.ref l]) Q E s:=by
 let h1:Heap:=(s.heap.push (seqObj "list" #[] 0)).update s.heap.objs.size (Obj.mapSeq (· ++ vs.toArray));have hsz:h1.objs.size=s.heap.objs.size+1:=by show(Heap.update _ _ _).objs.size=_;rw[Heap.size_update,size_push']
 let h2:Heap:=h1.push (seqObj "list" vs.toArray 0);have DS:h2.get? (s.heap.objs.size+1)=some (seqObj "list" vs.toArray 0):=by rw[←hsz];exact vY _ rfl
 have XO:Paired (fj h2) ks vs:=L2.Paired.mapP hk λk v x=>x.keep λb u _ q=>
  vZ _ ((Heap.get?_update_ne _ _ _ _ (vS (vX q))).trans (vZ _ q))
 refine Calls.call_function_entry kind_sorted plain_sorted entry_sorted (args_sorted1 _) ?_;unfold Builtin.«sorted»;refine wX (m:=checkCount "sorted" 1 1 _) (wY (wX (collect_list hl (wX (wpAny_newList ?_)))));show wpAny _ _ _ _ _ { s with heap:=h2 };rw[show((s.heap.push (seqObj "list" #[] 0)).update s.heap.objs.size (Obj.mapSeq (· ++ vs.toArray))).objs.size=s.heap.objs.size+1 from hsz];exact wX (wpAny_holding (wpAny_call_entry slot_list_sort ⟨_,DS,rfl⟩ entry_list_sort (Df DS XO hc hf um λp ap up=>⟨_,rfl,wY ⟨_,rfl,h p ap up⟩⟩) (args_list_sort _)))
end
end DL
namespace DL
open PySem PySem.Spec PySem.W PyProof.Rows L2
noncomputable def t9:D->Option At
 |.int n=>some (.i n)
 |.str z=>some (.s z)
 |_=>none
def cX:List D->Option (List At)
 |[]=>some []
 |d::ds=>(t9 d).bind λa=>(cX ds).map (a :: ·)
def m5:D->Option (List At)
 |.tup es=>cX es
 |_=>none
def dj:List D->Option (List (List At))
 |[]=>some []
 |d::ds=>(m5 d).bind λa=>(dj ds).map (a :: ·)
def Fk (d:D):List Int:=cw ((m5 d).getD [])
noncomputable def m6:List D->Option (List Int)
 |[]=>some []
 |.int n::ds=>(m6 ds).map (n :: ·)
 |_::_=>none
def ko (ns:List Int):List Int:=dw (λn=>[n]) ns
def eX:List D->Option (D×Bool)
 |[.lst ds]=>match fN ds with
  |some ss=>if ss.length<64 then some (.lst ((kn ss).map .str),true)else none
  |none=>match m6 ds with
   |some ns=>if ns.length<64 then some (.lst ((ko ns).map .int),true)else none
   |none=>match dj ds with
    |some ks=>if ks.length<64/\di ks=true/\cW ks=true then some (.lst (dw Fk ds),true)else none
    |none=>none
 |_=>none
theorem Dg (h:t9 d=some a)(k:t9 e=some a):d=e:=by
 cases d<;>simp only[t9]at h<;>cases h<;>cases e<;>simp only[t9]at k<;>cases k<;>rfl
theorem pX:∀ {ds es:List D}{as:List At},cX ds=some as->cX es=some as->ds=es
 |[],[],_,_,_=>rfl
 |[],e::es,as,h,k=>by
  simp only[cX]at h k;cases h
  obtain⟨a,_,k⟩:=oX k;obtain⟨r,_,k⟩:=oY k;cases k
 |d::ds,[],as,h,k=>by
  simp only[cX]at h k;cases k
  obtain⟨a,_,h⟩:=oX h;obtain⟨r,_,h⟩:=oY h;cases h
 |d::ds,e::es,as,h,k=>by
  simp only[cX]at h k;obtain⟨a,h1,h⟩:=oX h;obtain⟨r,h2,h⟩:=oY h;obtain⟨a',k1,k⟩:=oX k;obtain⟨r',k2,k⟩:=oY k;subst h;injection k with z1 z2;subst z1;subst z2;rw[Dg h1 k1,pX h2 k2]
theorem Fl (h:m5 d=some k)(h':m5 e=some k):d=e:=by
 cases d<;>simp only[m5]at h<;>try (cases h;done)
 cases e<;>simp only[m5]at h'<;>try (cases h';done)
 rw[pX h h']
theorem fB:∀ {ds:List D}{ks:List (List At)},dj ds=some ks->ks.length=ds.length
 |[],_,h=>by simp only[dj]at h;cases h;rfl
 |d::ds,_,h=>by
  simp only[dj]at h;obtain⟨a,h1,h⟩:=oX h;obtain⟨r,h2,h⟩:=oY h;subst h;simp[fB h2]
theorem gY:∀ {ds:List D}{ks:List (List At)},dj ds=some ks->∀ {i:Nat},i<ds.length->m5 (ds.getD i .non)=some (ks.getD i [])
 |[],_,h,i,hi=>by simp at hi
 |d::ds,_,h,0,hi=>by
  simp only[dj]at h;obtain⟨a,h1,h⟩:=oX h;obtain⟨r,h2,h⟩:=oY h;subst h;exact h1
 |d::ds,_,h,i+1,hi=>by
  simp only[dj]at h;obtain⟨a,h1,h⟩:=oX h;obtain⟨r,h2,h⟩:=oY h;subst h;simp only[List.getD_cons_succ];exact gY h2 (by simpa using hi)
theorem pY {α:Type}(l:List α)(d:α):(List.range l.length).map (λi=>l.getD i d)=l:=by
 apply List.ext_getElem?;intro i;by_cases h:i<l.length
 ·simp[h]
 ·simp[h]
theorem Al (hk:dj ds=some ks)(hc:di ks=true)(ap:nj ds.length p)(up:Up (z4 ks) p ds.length):p.toList.map (λi=>ds.getD i .non)=dw Fk ds:=by
 have mem:∀x∈ds,∃k∈ks,m5 x=some k:=λx hx=>by
  obtain⟨i,hi,rfl⟩:=List.mem_iff_getElem.mp hx;have:=gY hk hi;rw[vF,vU hi]at this;refine⟨_,?_,this⟩;have DG:i<ks.length:=by rw[fB hk];exact hi
  rw[vF,vU DG];exact List.getElem_mem DG
 apply ib Fk
 ·intro x hx y hy e;obtain⟨k,mk,ek⟩:=mem x hx;obtain⟨k',XQ,VH⟩:=mem y hy;unfold Fk at e;rw[ek,VH]at e;have:=kT hc mk XQ e;subst this;exact Fl ek VH
 ·have:=ap.perm.map (λi=>ds.getD i .non);rw[pY]at this;exact this
 ·rw[List.pairwise_iff_getElem];intro i j hi hj zn;have hsz:=ap.size;have DG:i<p.size:=by simpa using hi
  have Ox:j<p.size:=by simpa using hj
  have:=up i j (Nat.le_of_lt zn) (by omega);unfold cr z4 at this;have gi:p.getD i 0=p[i]:=by rw[Array.getD_eq_getD_getElem?,Array.getElem?_eq_getElem DG];rfl
  have gj:p.getD j 0=p[j]:=by rw[Array.getD_eq_getD_getElem?,Array.getElem?_eq_getElem Ox];rfl
  have li:=ap.lt (k:=i) (by omega);have lj:=ap.lt (k:=j) (by omega);have mj:ks.getD (p.getD j 0) []∈ks:=by
   have h':p.getD j 0<ks.length:=by rw[fB hk];exact lj
   rw[vF,vU h'];exact List.getElem_mem h'
  have nl:¬cw (ks.getD (p.getD j 0) [])<cw (ks.getD (p.getD i 0) []):=λz=>by
   have:=vv (cs:=ks.map cw) (uS ⟨_,mj,rfl⟩) z;omega
  simp only[List.getElem_map,Array.getElem_toList];unfold Fj Fk;rw[←gi,←gj,gY hk li,gY hk lj];exact nl
section
variable {X:Cx}
theorem yh {K:PySem.W.Frag}{B:Hp}:∀ {vs:List V}{es:List D}{k:List At}{its:List Value},aW vs its->IsL K B vs es->cX es=some k->Paired ye k its
 |_,_,_,_,.nil,.nil,h=>by simp only[cX]at h;cases h;exact .nil
 |_,_,_,_,.cons r rr,.cons i ii,h=>by
  simp only[cX]at h;obtain⟨a,h1,h⟩:=oX h;obtain⟨t,h2,h⟩:=oY h;subst h;refine .cons ?_ (yh rr ii h2);cases i<;>simp only[t9]at h1<;>cases h1
  ·exact r
  ·exact r
theorem m7 {ae:List (Addr×Obj)}{σ:St}{H:Hp}{s:Shared}(I:Inv X ae σ H s):∀ {ys:List V}{ds:List D}{ks:List (List At)}{its:List Value},aW ys its->IsL X.K H ys ds->dj ds=some ks->Paired (fj s.heap) ks its
 |_,_,_,_,.nil,.nil,h=>by simp only[dj]at h;cases h;exact .nil
 |_,_,_,_,.cons r rr,.cons i ii,h=>by
  simp only[dj]at h;obtain⟨a,h1,h⟩:=oX h;obtain⟨t,h2,h⟩:=oY h;subst h;refine .cons ?_ (m7 I rr ii h2);cases i<;>simp only[m5]at h1<;>try (cases h1;done)
  rename_i hq hl;cases r
  obtain⟨its',r',⟨o,ho,hc,n,hd⟩,_⟩:=I.tuple hq;exact⟨_,o,_,n,rfl,ho,hc,hd,by simpa using yh r' hl h1⟩
theorem Bq {K:PySem.W.Frag}{B:Hp}:∀ {vs:List V}{ds:List D},IsL K B vs ds->∀ {i:Nat},i<ds.length->Is K B (vs.getD i .non) (ds.getD i .non)
 |_,_,.cons h _,0,_=>h
 |_,_,.cons _ t,i+1,hi=>by
  simp only[List.getD_cons_succ];exact Bq t (by simpa using hi)
 |_,_,.nil,i,hi=>by simp at hi
theorem yi:∀ {vs:List V}{us:List Value},aW vs us->∀ {i:Nat},i<vs.length->ba (vs.getD i .non) (us.getD i Value.none)
 |_,_,.cons h _,0,_=>h
 |_,_,.cons _ t,i+1,hi=>by
  simp only[List.getD_cons_succ];exact yi t (by simpa using hi)
 |_,_,.nil,i,hi=>by simp at hi
theorem pZ {K:PySem.W.Frag}{B:Hp}{vs:List V}{ds:List D}(h:IsL K B vs ds):∀(l:List Nat),(∀i∈l,i<ds.length)->IsL K B (l.map λi=>vs.getD i .non) (l.map λi=>ds.getD i .non)
 |[],_=>.nil
 |i::l,hl=>.cons (Bq h (hl i (mX ..))) (pZ h l λj hj=>hl j (mZ _ hj))
theorem nG (h:aW vs us):∀(l:List Nat),(∀i∈l,i<vs.length)->aW (l.map λi=>vs.getD i .non) (l.map λi=>us.getD i Value.none)
 |[],_=>.nil
 |i::l,hl=>.cons (yi h (hl i (mX ..))) (nG h l λj hj=>hl j (mZ _ hj))
end
section
variable {X:Cx}
theorem Br {K:PySem.W.Frag}{B:Hp}:∀ {vs:List V}{ds:List D}{ns:List Int}{its:List Value},aW vs its->IsL K B vs ds->m6 ds=some ns->IntsAre its ns
 |_,_,_,_,.nil,.nil,h=>by simp only[m6]at h;cases h;exact .nil
 |_,_,_,_,.cons r rr,.cons i ii,h=>by
  cases i<;>simp only[m6]at h<;>try (cases h;done)
  obtain⟨t,h2,h⟩:=oY h;subst h;obtain⟨u,rfl⟩:=r;exact .cons _ u (Br rr ii h2)
theorem tE:∀ {its:List Value}{zs:List Str},StrsAre its zs->aW (zs.map V.str) its
 |_,_,.nil=>.nil
 |_,_,.cons x t r=>.cons ⟨t,rfl⟩ (tE r)
theorem gV:∀ {its:List Value}{zs:List Int},IntsAre its zs->aW (zs.map V.int) its
 |_,_,.nil=>.nil
 |_,_,.cons x t r=>.cons ⟨t,rfl⟩ (gV r)
theorem m8 {K:PySem.W.Frag}{N:Hp}:∀(zs:List Int),IsL K N (zs.map V.int) (zs.map D.int)
 |[]=>.nil
 |z::zs=>.cons (.int z) (m8 zs)
theorem yj (p:l'.Perm l)(h:l'.Pairwise (·<=·)):l'=ko l:=by
 refine ib _ (λx _ y _ e=>by injection e) p (h.imp λ{a b} hab=>?_);unfold Fj;intro z;rw[List.cons_lt_cons_iff]at z;rcases z with z|⟨_,z⟩
 ·omega
 ·exact List.lt_irrefl _ z
theorem lI (I:Inv X ae σ H s)(sB:aU B H)(q:Fin X.K B H (.lst ds) true Q)(hv:aW ys out.toList)(hl:IsL X.K B ys ds)(hz:ys.length<=sizeLine):
  EP X ae σ Q (.ref (s.heap.objs.size+1)) { s with heap:=sortedAll s.heap its out }:=by
 obtain⟨e,he⟩:=sortedAll_at s.heap its out;have hp:H (s.heap.objs.size+1)=none:=I.hok.fresh (Nat.le_succ _);have xt:=Ext.laid (o:=.lst ys) sB hp;exact⟨.ref _,_,I.laid (t':=s.toks) (λb o=>sortedAll_old) (Nat.le_succ _) (show bO X.prog X.w _ _ _ (.lst ys)from ⟨hz,out.toList,e,hv,he⟩),rfl,
  q _ _ _ xt (.lst (iF.of aE) (hl.mono xt.bn)) λ_=>⟨_,_,_,rfl,rfl,hp,aE,hl.mono xt.bn⟩⟩
theorem yk:bP X (.builtin "sorted") (zM X.K eX):=by
 intro ae s σ H xs us Q I r h;obtain⟨B,dl,d,bb,sB,i,ee,q⟩:=h;cases i with
 |nil=>simp[eX]at ee
 |cons i1 i2=>
  cases i2 with
  |cons _ _=>cases i1<;>simp[eX]at ee
  |nil=>
   cases i1<;>try (simp[eX]at ee;done)
   rename_i l0 vs ds h hl;obtain⟨u,rfl,rx⟩:=gM r;cases rx
   obtain⟨its,r',pl,hz⟩:=I.list (sB.seq h);have zk:vs.length=its.length:=r'.length;have Hk:ds.length=vs.length:=hl.length.symm;simp only[eX]at ee;split at ee
   ·rename_i ss es;split at ee
    ·rename_i um;cases ee
     have jL:=jl r' hl es;have TU:its.length=ss.length:=by rw[←jL.strs,vI]
     refine sorted_strs pl.isList (by simpa using jL) (by omega) λout Lf a1 a2 a3=>?_;have e:=tz a2 a3;subst e;exact lI I sB q (tE a1) (mw _) (by rw[vI,(fg ss).length_eq,sizeLine_eq];omega)
    ·cases ee
   ·split at ee
    ·rename_i ns es;split at ee
     ·rename_i um;cases ee
      have jL:=Br r' hl es;have TU:its.length=ns.length:=IntsAre.length jL;refine sorted_ints pl.isList (by simpa using jL) (by omega) λout Lf a1 a2 a3=>?_;have e:=yj a2 a3;subst e;exact lI I sB q (gV a1) (m8 _) (by rw[vI];unfold ko;rw[(b9 _ ns).length_eq,sizeLine_eq];omega)
     ·cases ee
    ·split at ee
     ·rename_i ks es;split at ee
      ·rename_i hh;obtain⟨um,hc,hf⟩:=hh;cases ee
       have RL:=fB es;have jL:=m7 I r' (hl.mono sB) es;refine yg pl.isList (by simpa using jL) hc hf (by omega) λp ap up=>?_;have lz:its.length=ds.length:=by omega
       rw[lz]at ap up;have e:=Al es hc ap up;have DV:∀i∈p.toList,i<ds.length:=λi hi=>List.mem_range.mp (ap.perm.mem_iff.mp hi);have il:=pZ hl p.toList DV;rw[e]at il;refine lI I sB q (ys:=p.toList.map λi=>vs.getD i .non) ?_ il ?_
       ·simpa using nG r' p.toList λi hi=>by rw[←Hk];exact DV i hi
       ·rw[vI,vG,ap.size,sizeLine_eq];omega
      ·cases ee
     ·cases ee
end
end DL
namespace DL
open PySem PySem.Spec PyProof.Rows L2
section
variable {X:Cx}{pos:Pos}
@[simp] def W5 (i:Nat)(f:FE):FS:=λρ=>match ρ[i]? with
 |some (some (.lst ds,true))=>(f ρ).bind λx=>(m6 ds).bind λns=>match x.1 with
  |.int n=>if ns.findIdx (· == n)<ns.length then some (.nx (ρ.set i (some (.lst ((ns.eraseIdx (ns.findIdx (· == n))).map .int),true))))else none
  |_=>none
 |_=>none
end
section
variable {prog:Program}{w:World}{A:Around}{E:Value->Shared->Prop}{s:Shared}
theorem Am {a:Addr}{o:Obj}{its:Array Value}{n:Nat}{x:Value}{e:Value->Bool}{j:Nat}{P:PySem.Fin->Shared->Prop}(ho:s.heap.get? a=some o)(hd:o.data=.seq its n)
  (he:∀y∈its,MeetsSeq.EqGives y x (e y)) (hj:j<its.size) (Hl:e its[j]=true) (Ol:∀m (hm:m<its.size),m<j->e its[m]=false)
  (h:P (.done (.ret (.int j s.toks))) { s with toks:=s.toks+1 }):wpAny (model prog w) A (Builtin.«tuple.index» ⟨[.ref a,x],[]⟩) P E s:=by
 show wpAny _ _ (Builtin.Tuple.tupleItemsOf (.ref a)>>=_) _ _ s;refine wX (wpAny_tupleItemsOf ho hd ?_);dsimp only;refine wX (wY (wX (wY (wX ?_))));rw[Std.Legacy.Range.forIn_eq_forIn_range'];refine wpAny_forIn_list _
  (λaD r s'=>r.1=none/\s'=s/\∃i,i<=j/\aD=List.range' i (its.size - i))
  _ ?_ ?_ _ _ ⟨rfl,rfl,0,uN _,?_⟩
 ·rintro k aD r s' ⟨hr,rfl,i,hi,hz⟩;have fR:i<its.size:=by omega
  obtain⟨m,hm⟩:∃m,its.size - i=m+1:=⟨its.size - i - 1,by omega⟩;rw[hm,List.range'_succ]at hz;injection hz with z1 z2;have z1:=z1.symm;subst z1;subst z2;have hg:its[i]? = some its[i]:=by simp[fR]
  simp only[hg];refine wX (he _ (Array.getElem_mem fR) prog w _ _ _ _ ?_);by_cases zn:i=j
  ·subst zn;rw[Hl];simp only[if_true];refine wX ?_;show wpAny _ _ (mkInt (i:Int)>>=λv=>ret v) _ _ _;exact wX (wpAny_mkInt (wY (wY (wY h))))
  ·rw[Ol i fR (by omega)];simp only[uV,if_false];exact wY ⟨rfl,rfl,i+1,by omega,by rw[show its.size - (i+1)=m by omega]⟩
 ·rintro⟨r1,r2⟩ s' ⟨hr,rfl,i,hi,hz⟩;exfalso;have:(List.range' i (its.size - i)).length=0:=by rw[←hz];rfl
  rw[List.length_range']at this;omega
 ·simp
end
theorem CRows.findT {K:PySem.W.Frag}{P:Params}(y:Str){ds:List D}:∀ {es:List DictEntry}{aL:List (Str×D)},CRows K P es aL->aL.lookup y=some (.tup ds) ->
  ∃e a its n oK,es.find? (λe=>Value.isStrOf y e.key)=some e/\e.val=.ref a/\K.lookup a=some ⟨.type "tuple",none,.seq its n,oK⟩/\j9 its.toList ds=true
 |_,_,.nil,h=>by simp at h
 |_,_,.tup (x:=x) (t:=t) (a:=a) (ds:=JB) hh l f tl,h=>by
  by_cases e:y=x
  ·subst e;rw[List.lookup_cons_self]at h;cases h
   rw[vC]at f;exact⟨_,a,_,_,_,List.find?_cons_of_pos (by simp[Value.isStrOf]),rfl,l,f.2⟩
  ·rw[List.lookup_cons,beq_eq_false_iff_ne.mpr e]at h;have nf:Value.isStrOf y (Value.str x t)=false:=by
    rw[Bool.eq_false_iff];intro z;obtain⟨t',q⟩:=Value.isStrOf_shape z;injection q with q1;exact e q1.symm
   simp only[List.find?_cons,nf];exact tl.findT y h
 |_,_,.flat (x:=x) (t:=t) (u:=u) (d:=d) hh f tl,h=>by
  by_cases e:y=x
  ·subst e;rw[List.lookup_cons_self]at h;cases h
   cases u<;>simp[ve]at f
  ·rw[List.lookup_cons,beq_eq_false_iff_ne.mpr e]at h;have nf:Value.isStrOf y (Value.str x t)=false:=by
    rw[Bool.eq_false_iff];intro z;obtain⟨t',q⟩:=Value.isStrOf_shape z;injection q with q1;exact e q1.symm
   simp only[List.find?_cons,nf];exact tl.findT y h
section
variable {X:Cx}{b e:Expr}{pos:Pos}{x:Str}{p:Pos}
def SH (K:PySem.W.Frag):V->List V->Hp->VK->Prop:=λx xs H Q=>∃(a:Addr)(o:Obj)(its:Array Value)(n:Nat)(zs:List Str)(y:Str),x=.ref a/\xs=[.str y]/\K.lookup a=some o/\o.cls=.type "tuple"/\o.data=.seq its n/\StrsAre its.toList zs/\zs.findIdx (· == y)<zs.length/\Q (.int (zs.findIdx (· == y):Nat)) H
noncomputable def K8 (y:Str):Value->Bool
 |.str z _=>z == y
 |_=>false
theorem Bt:∀ {its:List Value}{zs:List Str},StrsAre its zs->∀(i:Nat)(hi:i<its.length),∃(h:i<zs.length)(t:Tok),its[i]=.str zs[i] t
 |_,_,.cons z t h,0,_=>⟨by simp,t,rfl⟩
 |_,_,.cons z t h,i+1,hi=>by
  obtain⟨h',t',e⟩:=Bt h i (by simpa using hi);exact⟨by simpa using h',t',by simpa using e⟩
 |_,_,.nil,i,hi=>by simp at hi
theorem ym:∀ {its:List Value}{zs:List Str},StrsAre its zs->its.length=zs.length
 |_,_,.nil=>rfl
 |_,_,.cons _ _ h=>by rw[vE,vE,ym h]
theorem Fm:HJ X "tuple.index" (SH X.K):=by
 intro ae s σ H x xs v us Q I rx rv h;obtain⟨a,o,its,n,zs,y,rfl,rfl,lk,hc,hd,hz,hk,q⟩:=h;cases rx
 obtain⟨u,rfl,⟨t,rfl⟩⟩:=rv.one;have ho:=I.kIn a o lk;have hl:=ym hz;rw[vG]at hl;have at':∀(i:Nat)(hi:i<its.size),∃(h:i<zs.length)(t:Tok),its[i]=.str zs[i] t:=λi hi=>by
  obtain⟨h',t',e⟩:=Bt hz i (by simpa using hi);exact⟨h',t',by simpa using e⟩
 refine wpAny_call_entry PySem.F.slot_tuple_index ⟨o,ho,hc⟩ PySem.F.entry_tuple_index (Am (e:=K8 y) (j:=zs.findIdx (· == y)) ho hd (λz hm=>?_) (by omega) ?_ (λm hm fR=>?_) ⟨_,rfl,.int (zs.findIdx (· == y):Nat),H,I.tok _,⟨_,rfl⟩,q⟩) (PySem.F.args_tuple_index_2 _ _)
 ·obtain⟨i,hi,rfl⟩:=Array.mem_iff_getElem.mp hm;obtain⟨_,t',e'⟩:=at' i hi;rw[e'];exact eqGives_str _ _ _ _
 ·obtain⟨_,t',e'⟩:=at' (zs.findIdx (· == y)) (by omega);rw[e'];exact List.findIdx_getElem (p:=(· == y)) (w:=hk)
 ·obtain⟨_,t',e'⟩:=at' m hm;rw[e'];have:=List.not_of_lt_findIdx (p:=(· == y)) (xs:=zs) fR;simpa [K8]using this
@[simp] def oW (aL:List (Str×D)):D->D->Option (D×Bool)
 |.str y,.str z=>match aL.lookup y with
  |some (.tup ds)=>(fN ds).bind λzs=>if zs.findIdx (· == z)<zs.length then some (.int (zs.findIdx (· == z):Nat),false)else none
  |_=>none
 |_,_=>none
theorem IC {aL:List (Str×D)}{f g:FE}{dC cG:Pos}(h:∃d,X.mg x=some (.ref d)/\sV X.K X.w.params d aL)(hb:JE X b f)(he:JE X e g)(hg:Gl X x:=by rfl)(rQ:(x == ("__debug__" : Str))=false:=by decide)(hs:ux b:=by intro _ _;rfl)
  (iC:attributeBase (.Subscript (.Name x p) b pos) "index" X.env (eval (.Subscript (.Name x p) b pos) X.env)=eval (.Subscript (.Name x p) b pos) X.env:=by rfl)
  (AF:((backTo cG (starEach [e] X.env)).all (λx=>!x.1) && (backToKw cG (keywordEach [] X.env)).all (λx=>x.1.isSome)
   && decide ([e].length+([]:List Keyword).length+(if([]:List Keyword).isEmpty then 0 else 1)<30))=true:=by rfl)
  (iD:(dC.endLine == cG.line)=true:=by rfl) (jL:starEach [e] X.env=[(false,eval e X.env)]:=by rfl):
  JE X (.Call (.Attribute (.Subscript (.Name x p) b pos) "index" dC) [e] [] cG) (f2 (oW aL) f g):=by
 obtain⟨d,hm,cd⟩:=h;have ix:Ha X (λx y H Q=>∃z ds,x=.ref d/\y=.str z/\aL.lookup z=some (.tup ds)/\∀a its n oK,X.K.lookup a=some ⟨.type "tuple",none,.seq its n,oK⟩->j9 its.toList ds=true->Q (.ref a) H):=by
  intro value slice ae s σ H x y v u Q I rx ry q hs;obtain⟨z,ds,rfl,rfl,el,q⟩:=q;cases rx
  obtain⟨t,rfl⟩:=ry;obtain⟨es,n,l,r,sm⟩:=cd;have hM:=PySem.W.mapOf_K (prog:=X.prog) (w:=X.w) I.kIn l r.lit;obtain⟨en,a,its,n',oK,e1,e2,e3,e4⟩:=r.findT z el;have ff:findBy Value.isStrOf es z=some (.ref a):=by
   unfold findBy;obtain⟨es⟩:=es;rw[List.find?_toArray,e1,←e2];rfl
  exact tail_any hM.typeIs slot_dict_getitem.lookup (wpAny_getItem_of (strKind_is X.prog X.w z t) hM ff ⟨.ref a,H,I.tok _,rfl,q a _ _ _ e3 e4⟩) hs
 refine PE.to (En (T:="tuple") PySem.F.plainAttrs_tuple PySem.F.slot_tuple_index PySem.F.type_tuple_index Fm (Kd ix (AJ (v:=.ref d) hg hm rfl rQ) hb hs) (iI he jX jL) iC AF iD jL rfl) λσ H Q q=>?_;obtain⟨B,ρ,d',bb,sB,r,ee,q⟩:=q;obtain⟨x1,ex,ee⟩:=oX ee;obtain⟨y1,ey,ee⟩:=oX ee;obtain⟨xd,xb⟩:=x1;obtain⟨yd,yb⟩:=y1;cases xd with
 |str z=>
  cases yd with
  |str y=>
   refine⟨B,ρ,_,xb,sB,r,ex,λv H1 N1 xt i1 _=>?_⟩;cases i1
   simp only[oW]at ee;split at ee
   ·rename_i ds el;obtain⟨zs,ez,ee⟩:=oX ee;split at ee
    ·rename_i hk;cases ee
     refine⟨z,ds,rfl,rfl,el,λa its n oK l fl=>⟨.inr (.inl ⟨rfl,_,l,rfl,rfl⟩),N1,ρ,_,yb,xt.nh,r.mono xt.bn,ey,λv2 H2 N2 Q3 i2 _=>?_⟩⟩;cases i2
     obtain⟨vs,rv,iv⟩:=jA (K:=X.K) fl;exact⟨a,_,its,n,zs,y,rfl,rfl,l,rfl,rfl,jl rv (iv N2) ez,hk,(q.into (xt.trans Q3)).one Q3.nh (.int _)⟩
    ·cases ee
   ·cases ee
  |_=>simp[oW]at ee
 |_=>simp[oW]at ee
end
open PySem.W (tabIn tabObj CodeHd kla_fn kla_obj kla_eval kla_makeFunction kla_makeFunctionHit kla_callFunE kla_codeExpr envX)
def PK (K:PySem.W.Frag)(c P:Addr):Prop:=∃o vs DK tf uo tg Oy DM tt,K.lookup c=some o/\o.cls=.type "code"/\o.data=.fields vs/\vs[11]? = some (.ref P)/\vs.getD 11 .none=.ref P/\vs.getD 18 .none=.str DK tf /\
 vs.getD 7 .none=.int uo tg/\vs.getD 9 .none=.bool Oy/\vs.getD 10 .none=.int DM tt/\c≠P
def An (K:PySem.W.Frag)(x:Str):Prop:=∃c P,tabIn K x=some (c,P)/\PK K c P
def Fo (H:Hp)(f:Addr)(q:Str)(params:Arguments)(body:Expr)(scope:Scope)(cl:List (Str×Addr)):Prop :=
 ∃pm c Ct u oc u' vs t,H f=some (.frz (kla_obj "<lambda>" q params body scope cl pm c Ct) u)/\H c=some (.frz oc u')/\oc.data=.fields vs/\vs[1]? = some (.str q t)
theorem Fo.mono (h:Fo H f q params body scope cl)(e:aU H H'):Fo H' f q params body scope cl :=
 let ⟨pm,c,Ct,u,oc,u',vs,t,h1,h2,h3,h4⟩:=h;⟨pm,c,Ct,u,oc,u',vs,t,e _ _ h1,e _ _ h2,h3,h4⟩
theorem lam_mk {K:PySem.W.Frag}{x:Str}{f c P:Addr}{oc:Value}{od T6:Option Addr}{oK Nr:Array (Option Value)}{fd:FuncData}{vs:Array Value}{DK:Str}{tf tg tt:Tok}{uo DM:Int}{Oy:Bool}(e1:PySem.W.nsIn K mainGlobals x=some (some (.ref f)))(e2:K.lookup f=some ⟨oc,od,.func fd,oK⟩)
  (e3:fd.code=.ref c) (e4:K.lookup c=some ⟨.type "code",T6,.fields vs,Nr⟩) (e5:vs[11]? = some (.ref P)) (e6:vs.getD 11 .none=.ref P) (e7:vs.getD 18 .none=.str DK tf) (e8:vs.getD 7 .none=.int uo tg) (e9:vs.getD 9 .none=.bool Oy) (XR:vs.getD 10 .none=.int DM tt) (VI:(c == P)=false):An K x :=
 ⟨c,P,tab_yes e1 e2 e3 e4 e5,_,vs,DK,tf,uo,tg,Oy,DM,tt,e4,rfl,rfl,e5,e6,e7,e8,e9,XR,λz=>by rw[z]at VI;simp at VI⟩
theorem Ao (l:List Value)(h:TriplesOk l)(e:codeAmong pos (l++[rawInt a,rawInt b,c])=some cv):codeAmong pos l=some cv∨cv=c:=by
 fun_induction TriplesOk l with
 |case1=>
  simp only[List.nil_append,rawInt,codeAmong]at e;split at e
  ·cases e;exact .inr rfl
  ·cases e
 |case2 a' t b' u x aD ih=>
  simp only[List.cons_append,codeAmong]at e ⊢;split at e
  ·rename_i hc;rw[if_pos hc];exact .inl e
  ·rename_i hc;rw[if_neg hc];exact ih h e
 |case3 l h1 h2=>exact h.elim
section
variable {X:Cx}{ae:List (Addr×Obj)}{σ:St}{H:Hp}{s:Shared}
theorem Fp 
  (hx:x∈mh) (L:An X.K x) (hc:∀c P,tabIn X.K x=some (c,P)->X.env.code=.ref c) (hq:X.env.qual ++ "<lambda>" = pB x) (NB:defaultsOf params X.env=([],[])) (rS:closureFor scope X.env=pure cl)
  (I:Inv X ae σ H s) (tb:Tb X.K H) (k:∀f H' s',Inv X ae σ H' s'->aU H H'->Fo H' f (pB x) params body scope cl->Q (.ref f) s'):
  wpAny (model X.prog X.w) X.A (eval (.Lambda params body scope pos) X.env) Q E s:=by
 refine kla_eval NB ?_;rw[hq];obtain⟨c,P,ht,o,vs,DK,tf,uo,tg,Oy,DM,tt,lk,ck⟩:=L;have Lg:=hc c P ht;have hP:=tb x hx c P ht;obtain⟨ps,e,tr,co⟩:=I.hok P _ hP;have C:CodeHd s.heap c P:=⟨o,vs,DK,tf,uo,tg,Oy,DM,tt,I.kIn c o lk,ck⟩;have hg:s.heap.Ns mainGlobals X.mg:=I.mod.glob.keeps I.bk;have nP:∀b,H b=none->b≠P:=λb n z=>by rw[z,hP]at n;cases n
 have XS:mainGlobals≠P:=by
  obtain⟨og,_,_,eg,_⟩:=I.mod.glob;exact nP _ (I.bs _ _ eg).2
 have hb:s.heap.BuiltinsAt X.mg P:=by
  obtain⟨bm,ob,b1,b2,b3,b4,b5,b6⟩:=I.mod.bmain;refine⟨bm,ob,b1,b2,λz=>?_,nP _ (I.bs _ _ b3).2,I.bk _ _ b3,b4,b5,b6⟩;obtain⟨og,es,ep,eg,dg,_⟩:=I.mod.glob;rw[z,eg]at b3;cases b3;rw[dg]at b6;cases b6
 cases hf:codeAmong pos ps.toList with
 |some cv=>
  obtain⟨c',oc,u,ws,t,rfl,hH,hd,hv⟩:=co pos cv hf;refine kla_makeFunctionHit (mg:=X.mg) rS I.ok.glob hg Lg C e tr hf hb λCt h' tk hk hsz=>?_;have hn:H h'.objs.size=none:=I.hok.fresh hsz;have sm:aU H (upd H h'.objs.size (.frz (kla_obj "<lambda>" (pB x) params body scope cl ((X.mg "__name__").getD .none) c' Ct) (.own h'.objs.size))):=λb u q=>by rw[aI (aX q hn)];exact q
  refine k _ _ _ (I.laid (t':=tk) (λb u q=>vZ _ (hk b u q)) hsz (show bO X.prog X.w _ _ _ (.frz _ (.own h'.objs.size))from ⟨vY _ rfl,_,vY _ rfl⟩)) sm ?_;exact⟨_,c',Ct,_,oc,u,ws,t,aE,sm _ _ hH,hd,hv⟩
 |none=>
  refine kla_makeFunction (mg:=X.mg) rS I.ok.glob hg Lg C e tr hf XS hb λc' Ct h' tk hx' hge fR hrec TV=>?_;obtain⟨c2,oc,ws,t,e2,DT,hd,hv⟩:=hrec;cases e2
  have QC:H c'=none:=I.hok.fresh hge;have hsz:s.heap.objs.size<=h'.objs.size:=vR hge (Nat.le_of_lt fR);have XT:H h'.objs.size=none:=I.hok.fresh hsz;have XU:c'≠h'.objs.size:=vS fR;let fo:Obj:=kla_obj "<lambda>" (pB x) params body scope cl ((X.mg "__name__").getD .none) c' Ct;let H1:Hp:=upd (upd H c' (.frz oc (.own c'))) h'.objs.size (.frz fo (.own h'.objs.size));have sm:aU H H1:=λb u q=>by
   show upd _ _ _ b=_;rw[aI (aX q XT),aI (aX q QC)];exact q
  have TW:H1 c'=some (.frz oc (.own c')):=by show upd _ _ _ c'=_;rw[aI XU,aE]
  have keep:∀b u,b≠P->s.heap.get? b=some u->(h'.push fo).get? b=some u:=λb u n q=>vZ _ (hx' b u n q);have lt:∀b u,s.heap.get? b=some u->b≠c'/\b≠h'.objs.size:=λb u q=>⟨vS (vQ (vX q) hge),vS (vQ (vX q) hsz)⟩;have QD:(h'.push fo).get? P=some (tabObj (ps++#[rawInt pos.line,rawInt pos.col,.ref c'])):=vZ _ TV;refine k _ H1 _ (I.un (t':=tk) (h':=h'.push fo) ⟨λb u q n _ _=>keep b u (nP b n) q,λb u q n _ _=>⟨u.slots,keep b u (nP b n) q⟩,λb u q n _=>?_,λb u q _=>?_,λb xs q=>sm _ _ q,λb ob u q=>sm _ _ q,λb u q=>sm _ _ q⟩ λb u q=>?_) sm ⟨_,c',Ct,_,oc,_,ws,t,aE,TW,hd,hv⟩
  ·show upd _ _ _ b=_;rw[aI (lt b u q).2,aI (lt b u q).1];exact n
  ·by_cases z:b=P
   ·subst z;exact⟨_,QD⟩
   ·exact⟨u,keep b u z q⟩
  ·by_cases z1:b=h'.objs.size
   ·subst z1;have q':some (HO.frz fo (.own h'.objs.size))=some u:=by rw[←q];exact aE.symm
    cases q'
    exact⟨vY _ rfl,_,vY _ rfl⟩
   ·by_cases z2:b=c'
    ·subst z2;rw[TW]at q;cases q;exact⟨vZ _ DT,_,vZ _ DT⟩
    ·have q':H b=some u:=by
      have:H1 b=H b:=by show upd _ _ _ b=_;rw[aI z1,aI z2]
      rw[←this];exact q
     by_cases z3:b=P
     ·subst z3;rw[hP]at q';cases q';refine⟨_,QD,?_,λzh cv' ea=>?_⟩
      ·rw[Array.toList_append];exact TriplesOk_snoc _ _ _ _ tr
      ·rw[Array.toList_append]at ea;rcases Ao _ tr ea with ea|rfl
       ·obtain⟨c3,XV,u3,XW,t3,y1,y2,y3⟩:=co zh cv' ea;exact⟨c3,XV,u3,XW,t3,y1,sm _ _ y2,y3⟩
       ·exact⟨c',oc,_,ws,t,rfl,TW,hd,hv⟩
     ·refine(I.hok b u q').stay (λd v D9 r=>keep d v ?_ r) (λd r=>sm _ _ r) (λd xs r=>sm _ _ r) λd ob v r=>sm _ _ r;rcases D9 with rfl|r
      ·exact z3
      ·intro z;rw[z,hP]at r;cases r
end
section
variable {P:Program}{w:World}{K:PySem.W.Frag}{mg:Str->Option Value}{base:Heap}
theorem dH.fnL {x:Str}{st:Stmt}{N ps:List Str}{k:Nat}{g:FS}{h:Heap}(F:dH K x st)(X:K.In h)(G:h.Ns mainGlobals mg)(S:FnScope N ps (aP st))
  (JG:∀(kV doc pm:Value)(an:Option Addr)(eK ct:Value)(us:List Value),us.length=ps.length->bindArgs (PySem.W.fnOf x x (gs st) (cK st) (aP st) .none kV doc pm an eK ct) ⟨us,[]⟩=pure (ps.zip us))
  (hb:∀(f:Addr)(eK:Value)(A:Around)(outer:List PySem.Env)(s:Shared)(H:Hp)(E:XK),(∀c P,tabIn K x=some (c,P)->eK=.ref c)->eV k (A.deeper (envOfC x (aP st) s.heap.objs.size f eK))->wI (oQ zw P w K mg base N x (aP st) f eK A outer s H E).nox (cK st) g):
  Fn P w K mg base (k+1) x (aN g ps.length (N.length - ps.length)):=by
 obtain⟨f,fd,F1,a⟩:=F;have F2:=F1;obtain⟨oc,od,kV,doc,pm,an,eK,ct,oK,rfl,lk,jz⟩:=F2.ex;have hc:∀c P,tabIn K x=some (c,P)->eK=.ref c:=λc P e=>by
  unfold tabIn at e;simp only[a,lk]at e;split at e
  ·rename_i c' _;split at e
   ·split at e
    ·cases e;rfl
    ·cases e
   ·cases e
  ·cases e
 have len:∀vs H Q E,Ih K (aN g ps.length (N.length - ps.length)) vs H Q E->vs.length=ps.length:=λvs H Q E h=>by
  obtain⟨B,ds,d,b,sB,i,e,q⟩:=h;unfold aN at e;split at e
  ·rename_i hl;rw[i.length];exact hl
  ·cases e
 refine⟨f,_,ps,Kc lk jz S len λA outer s H vs Q E hr h=>⟨_,uq.nox (hb f eK A outer s H E hc hr),?_⟩,PySem.W.mg_of X G a,F1.kp,F1.binds JG⟩;have bL:=len vs H Q E h;obtain⟨B,ds,d,b,sB,i,e,q⟩:=h;unfold aN at e;rw[if_pos (by rw[←i.length];exact bL)]at e;have s0:=xm (N:=N) sB.1 sB.2 i;rw[bL]at s0;split at e
 ·rename_i d' b' eg;cases e
  exact⟨B,H,_,_,⟨B,s0⟩,eg,λv H' N' x' i' f'=>q v H' N' x' i' f'⟩
 ·rename_i ρ' eg;cases e
  exact⟨B,H,_,_,⟨B,s0⟩,eg,λσ' H' ⟨N',s'⟩=>q .non H' N' s'.ext .non (by simp)⟩
 ·cases e
end
inductive l8 (X:Cx)(N':List Str)(scope:Scope)(cl:List (Str×Addr)):Nat->List Nat->Prop where
 |nil {j:Nat}(h:N'.length=j):l8 X N' scope cl j []
 |cons {j i:Nat}{r:List Nat}{x:Str}(h1:N'[j]? = some x) (h2:X.N[i]? = some x) (h3:X.env.kindOf x=some .cell∨X.env.kindOf x=some .free)
   (h4:scope.names.lookup x=some .free) (h5:cl.lookup x=X.env.cells.lookup x) (t:l8 X N' scope cl (j+1) r):l8 X N' scope cl j (i::r)
theorem l8.len:∀ {j:Nat}{cap:List Nat},l8 X N' scope cl j cap->N'.length=j+cap.length
 |_,_,.nil h=>by rw[h];rfl
 |j,i::r,.cons _ _ _ _ _ t=>by rw[t.len,vE];omega
theorem l8.get:∀ {j:Nat}{cap:List Nat}{k i:Nat},l8 X N' scope cl j cap->cap[k]? = some i->∃x,N'[j+k]? = some x/\X.N[i]? = some x/\(X.env.kindOf x=some .cell∨X.env.kindOf x=some .free) /\
  scope.names.lookup x=some .free/\cl.lookup x=X.env.cells.lookup x
 |_,_,_,_,.nil _,e=>by simp at e
 |j,_,0,_,.cons h1 h2 h3 h4 h5 _,e=>by simp at e;subst e;exact⟨_,h1,h2,h3,h4,h5⟩
 |j,_,k+1,i,.cons _ _ _ _ _ t,e=>by
  obtain⟨x,q,r⟩:=t.get (k:=k) (i:=i) (by simpa using e);exact⟨x,by rw[show j+(k+1)=j+1+k by omega];exact q,r⟩
noncomputable abbrev yn (X:Cx)(N':List Str)(scope:Scope)(cl:List (Str×Addr))(q:Str)(A:Around)(f c:Addr)(s:Shared)(H:Hp):Cx :=
 { X with A:=A.deeper (envX q scope s.heap.objs.size f (.ref c) cl),N:=N',s₀:=s,H₀:=H,env:=envX q scope s.heap.objs.size f (.ref c) cl,outer:=X.stack,stack:=envX q scope s.heap.objs.size f (.ref c) cl::X.stack,ex:=[],fn:=λ_=>false,calm:=true,pn:=[],xe:=λ_ _=>False }
structure LamSc (X:Cx)(scope:Scope)(cl:List (Str×Addr))(y:Str):Prop where
 clos:closureFor scope X.env=pure cl
 nocell:∀z∈scope.names,z.2≠.cell
 kind:scope.kind=.function
 co:scope.isCoroutine=false
 gen:scope.isGenerator=false
 par:scope.names.lookup y=some .local
 sub:∀x c,cl.lookup x=some c->X.env.cells.lookup x=some c
 has:∀x,scope.names.lookup x=some .free->∃c,cl.lookup x=some c
theorem Bu (h1:∀z∈scope.names,z.2≠.cell)(h2:scope.kind=.function)(h3:scope.isCoroutine=false)(RM:scope.isGenerator=false)(hp:scope.names.lookup y=some .local)
  (Om:(scope.names.all λz=>!(z.2 == NameKind.free) || (X.env.cells.lookup z.1).isSome)=true):LamSc X scope (dM scope.names X.env.cells []) y:=by
 have h4:∀z∈scope.names,z.2=.free->(X.env.cells.lookup z.1).isSome=true:=λz hz e=>by
  have:=uR Om z hz;rw[e]at this;simpa using this
 exact⟨sQ scope.names [] h4,h1,h2,h3,RM,hp,λx c e=>mm scope.names [] (λy d q=>by cases q) e,λx h=>by
  have:=mn (x:=x) scope.names [] (fT h) (h4 _ (fT h) rfl);exact uU this⟩
section
variable {X:Cx}{ae:List (Addr×Obj)}{σ:St}{H:Hp}{s:Shared}{A:Around}{N':List Str}{scope:Scope}{cl:List (Str×Addr)}{q y:Str}{cap:List Nat}
theorem ID (S:LamSc X scope cl y)(N0:N'[0]? = some y)(cp:l8 X N' scope cl 1 cap)(I:Inv X ae σ H s)(hA:A.frames=some X.stack)(hh:A.handled=none)(r:ba v u)
  (Oo:h₁.Ns s.heap.objs.size (λx=>[(y,u)].reverse.lookup x)) (hk:∀b o,s.heap.get? b=some o->h₁.get? b=some o):
  Inv (yn X N' scope cl q A f c s H) [] (some v::sf 0 cap σ) H { s with heap:=h₁,toks:=tk }:=by
 have J5:∀b:Addr,b∉(yn X N' scope cl q A f c s H).ex:=λb z=>absurd (show b∈([]:List Addr)from z) (by simp);refine⟨⟨I.ok.mod,S.kind,rfl,rfl,vT _,λx z d e1 e2=>I.ok.inj x z d (S.sub _ _ e1) (S.sub _ _ e2),λx hx=>?_,(λx d e=>by cases e),λ_=>hh,Around.frames_deeper hA,.inr ⟨rfl,rfl⟩,λb z=>absurd z (J5 b),I.bs,vR I.ok.bsz I.sz,λb _ _=>J5 b,λb z=>absurd z (J5 b),I.stack,I.stkFree⟩,
  rfl,I.bare,Un.kept hk,⟨_,Oo,λi x v' e1 e2 e3=>?_⟩,λx d e=>?_,I.hok.fresh (vT _),λx d e=>I.freeC x d (S.sub _ _ e),λp hp=>absurd (show p∈([]:List (Addr×Obj))from hp) (by simp),I.hok.kept hk,?_⟩
 ·have hx':scope.names.lookup x=some .cell∨scope.names.lookup x=some .free:=hx;rcases hx' with hx'|hx'
  ·exact absurd rfl (S.nocell _ (fT hx'))
  ·exact S.has x hx'
 ·cases i with
  |zero=>
   have La:N'[0]? = some x:=e1;rw[N0]at La;cases La;have TX:some v=some v':=by simpa using e2
   cases TX
   exact⟨u,r,.inl ⟨S.par,by simp⟩⟩
  |succ k=>
   have TX:(sf 0 cap σ)[k]? = some (some v'):=by simpa using e2
   obtain⟨k',i',fG,g1,g2⟩:=uG TX;have:k=k':=by omega
   subst this;obtain⟨x',n1,n2,n3,n4,n5⟩:=cp.get g1;have:x'=x:=by
    have La:N'[k+1]? = some x:=e1;rw[show 1+k=k+1 by omega]at n1;rw[n1]at La;exact vK La
   subst this;have XX:σ[i']? = some (some v'):=by
    cases z:σ[i']? with
    |none=>rw[z]at g2;cases g2
    |some w=>rw[z]at g2;cases w with
     |none=>cases g2
     |some w=>cases g2;rfl
   obtain⟨m,_,hl⟩:=I.loc;obtain⟨u',ru,lk⟩:=hl i' x' v' n2 XX (by
    rcases n3 with n3|n3
    ·exact .inr (.inl n3)
    ·exact .inr (.inr n3))
   refine⟨u',ru,.inr ⟨.inr n4,?_⟩⟩;rcases lk with⟨l1,_⟩|⟨_,d,l2,l3⟩
   ·rcases n3 with n3|n3<;>(rw[l1]at n3;cases n3)
   ·obtain⟨ob,ho,hd⟩:=l3;exact⟨d,by show cl.lookup x'=_;rw[n5];exact l2,ob,hk _ _ ho,hd⟩
 ·obtain⟨w,ob,ho,hd⟩:=I.cell x d (S.sub _ _ e);exact⟨w,ob,hk _ _ ho,hd⟩
 ·have:=cp.len;show(some v::sf 0 cap σ).length=N'.length;unfold sf;rw[this];simp;omega
theorem IE (S:LamSc X scope cl y)(N0:N'[0]? = some y)(cp:l8 X N' scope cl 1 cap)(I:Inv X ae σ H s)
  (hA:A.frames=some X.stack) (hh:A.handled=none) (GJ:A.depth<recursionLimit) (lv:Fo H f q params body scope cl)
  (zl:∀pm c Ct u,bindArgs (kla_fn "<lambda>" q params body scope cl pm (.ref c) Ct) ⟨[u],[]⟩=pure [(y,u)])
  (hb:∀(f c:Addr)(s:Shared)(H:Hp),JE (yn X N' scope cl q A f c s H) body fb)
  (rep:fE X.K B σ ρ) (sB:aU B H) (r:ba v u) (i:Is X.K B v d) (e:fb (some (d,false)::cA 0 cap ρ)=some (d',b')) (qf:Fin X.K B H d' b' Q):
  wpAny (model X.prog X.w) A (call (.ref f) [u]) (EP X ae σ Q) (λ_ _=>False) s:=by
 obtain⟨pm,c,Ct,uf,oc,u',ws,t,hf,hc,hd,hv⟩:=lv;have ho:=(I.hok f _ hf).1;have DT:=(I.hok c _ hc).1;refine wpAny_call (codeAny_mono (R:=λr s'=>CR zw X.stack X.prog X.w H s Q (λ_ _ _=>False) r s') ?_ λr s' hq=>?_)
 ·refine kla_callFunE GJ ho rfl S.co S.gen rfl ⟨c,oc,ws,t,rfl,DT,hd,hv⟩ ?_;rw[zl];refine wY (wpAny_newFunctionEnv S.nocell (λz hz=>by rw[uT hz];exact S.par) (λh₁ Oo hsb=>⟨I.nolimit.fresh _ hsb,?_⟩) S.kind);have QE:∀b o,s.heap.get? b=some o->h₁.get? b=some o:=λb o e=>hsb.extBut b o (vS (vX e)) (vZ _ e);have J:=ID (f:=f) (c:=c) (q:=q) (tk:=s.toks+1) S N0 cp I hA hh r Oo QE;refine kla_codeExpr (wpAny_mono (hb f c s H [] _ _ H Q J ⟨B,_,d',b',sB,⟨rep.tb,λj e0 b0 z=>?_⟩,e,qf⟩) (λw s' hw=>?_) λ_ _ z=>z.elim)
  ·cases j with
   |zero=>
    have z':some (d,false)=some (e0,b0):=by simpa using z
    cases z'
    exact⟨v,rfl,i⟩
   |succ j=>
    obtain⟨w,h1,h2⟩:=(rep.caps (nT:=0) (cap:=cap)).at' j e0 b0 (by simpa using z);exact⟨w,by simpa using h1,h2⟩
  ·obtain⟨v',H',J',rv,qv⟩:=hw;exact⟨v',H',J'.os,J'.bare,J'.base,J'.hok,rv,qv⟩
 ·cases r with
  |error e=>exact False.elim hq
  |ok fl=>
   cases fl with
   |ret w=>exact I.after hq
   |next=>exact False.elim hq
   |brk=>exact False.elim hq
   |cont=>exact False.elim hq
end
end DL
namespace DL
open PySem PySem.Spec PySem.W PyProof.Rows L2
section
variable {X:Cx}{ae:List (Addr×Obj)}{σ:St}{H:Hp}{s:Shared}{h':Heap}{t':Nat}
theorem nH (I:Inv X ((p,o)::ae) σ H s):∀x c,X.env.cells.lookup x=some c->c≠p:=λx c e z=>by
 have pf:=I.pin (p,o) (mY _ mX);obtain⟨v,ob,ho,hd⟩:=I.cell x c e;rw[z,pf.1]at ho;cases ho;exact pf.2.2.2.2 v hd
theorem kq (I:Inv X (p::ae) σ H s):Inv X ae σ H s:=I.pins_of λq hq=>I.pin q (mY _ (mZ _ hq))
theorem gB (I:Inv X ((p,o)::ae) σ H s)(h0:X.s₀.heap.objs.size<=p)(hp:∀q∈X.pn++ae,q.1≠p)(k:∀b u,b≠p->s.heap.get? b=some u->h'.get? b=some u)(e':h'.get? p=some o')(nc:∀v,o'.data≠.cell v):
  Inv X ((p,o')::ae) σ H { s with heap:=h',toks:=t' }:=by
 have pf:=I.pin (p,o) (mY _ mX);have J:=(kq I).turned (t':=t') k pf.2.1 pf.2.2.1 (.inr h0) (nH I) hp;refine J.pins_of λq hq=>?_;rcases vP hq with rfl|hq
 ·exact⟨e',pf.2.1,pf.2.2.1,pf.2.2.2.1,nc⟩
 ·exact J.pin q (mY _ hq)
theorem pj (I:Inv X ae σ H s)(k:∀b u,s.heap.get? b=some u->h'.get? b=some u)(hs:s.heap.objs.size<=p)(e':h'.get? p=some o)(nc:∀v,o.data≠.cell v):Inv X ((p,o)::ae) σ H { s with heap:=h',toks:=t' }:=by
 have J:=I.kept (t':=t') k;refine J.pins_of λq hq=>?_;rcases vP hq with rfl|hq
 ·exact⟨e',I.hok.fresh hs,Nat.ne_of_gt (vQ I.lt hs),I.nofs hs,nc⟩
 ·exact J.pin q (mY _ hq)
theorem IF (I:Inv X ((p,o)::ae) σ H s)(h0:X.s₀.heap.objs.size<=p)(hp:∀q∈X.pn++ae,q.1≠p)(k:∀b u,b≠p->s.heap.get? b=some u->h'.get? b=some u)(eo:∃u,h'.get? p=some u)
  (new:bO X.prog X.w (upd H p ob) h' p ob):Inv X ae σ (upd H p ob) { s with heap:=h',toks:=t' }:=by
 have pf:=I.pin (p,o) (mY _ mX);have hn:=pf.2.1;have hn:H p=none:=hn;have cs:=nH I;refine(kq I).step (g':=s.gens) (d':=s.drawn) (ch:=[p]) (λb hb=>?_) (λb u _ _ hc e _=>k b u (λz=>hc (by simp[z])) e) (λb u _ _ hc e _=>⟨u.slots,k b u (λz=>hc (by simp[z])) e⟩) (λb u hc _ n=>by rw[aI (λz=>hc (by simp[z]))];exact n)
  (λb u hc e=>⟨u,k b u (λz=>hc (by simp[z])) e⟩) (λb xs e=>by rw[aI (aX e hn)];exact e) (λb u w e=>by rw[aI (aX e hn)];exact e) (λb q e=>by rw[aI (aX e hn)];exact e) (λm hm=>?_) (λb u e=>?_) I.bare
 ·have z:b=p:=by simpa using hb
  subst z;exact⟨.inr h0,pf.2.2.1,cs,hp⟩
 ·obtain⟨ol,es,ep,ho,r⟩:=hm;exact⟨ol,es,ep,k _ ol (λz=>pf.2.2.1 z.symm) ho,r⟩
 ·by_cases z:b=p
  ·subst z;rw[aE]at e;cases e;exact new
  ·rw[aI z]at e;refine(I.hok b u e).stay (λc v hc q=>k c v ?_ q) (λc q=>?_) (λc xs q=>?_) λc w xs q=>?_
   ·rcases hc with rfl|hc
    ·exact z
    ·exact aX hc hn
   ·rw[aI (aX q hn)];exact q
   ·rw[aI (aX q hn)];exact q
   ·rw[aI (aX q hn)];exact q
end
def Fq (X:Cx)(A:Around)(σ:St)(qv:Value)(B H1:Hp)(kf:D->Option D):Prop :=
 ∀(ae:List (Addr×Obj))(s:Shared)(H N:Hp)(v:V)(u:Value)(d d':D),Inv X ae σ H s->aU H1 H->aU B N->aU N H->Is X.K N v d->ba v u->kf d=some d' ->
  wpAny (model X.prog X.w) A (call qv [u]) (EP X ae σ λv' H'=>∃N',Ext N N' H H'/\Is X.K N' v' d') (λ_ _=>False) s
def JK (X:Cx)(A:Around)(e:Expr)(kf:Env->D->Option D):Prop:=∀(ae:List (Addr×Obj))(s:Shared)(σ:St)(H B:Hp)(ρ:Env)(Q:Value->Shared->Prop)(E:Value->Shared->Prop),Inv X ae σ H s->aU B H->fE X.K B σ ρ ->
 (∀qa H1 s1,Inv X ae σ H1 s1->aU H H1->Fq X A σ (.ref qa) B H1 (kf ρ)->Q (.ref qa) s1)->wpAny (model X.prog X.w) X.A (eval e X.env) Q E s
section
variable {X:Cx}{A:Around}
@[simp] def qc (cap:List Nat)(fb:FE):Env->D->Option D:=λρ d=>(fb (some (d,false)::cA 0 cap ρ)).map (·.1)
theorem vy (hx:x∈mh)(L:An X.K x)(hc:∀c P,tabIn X.K x=some (c,P)->X.env.code=.ref c)(hq:X.env.qual ++ "<lambda>" = pB x)
  (NB:defaultsOf params X.env=([],[])) (S:LamSc X scope (dM scope.names X.env.cells []) y) (N0:N'[0]? = some y) (cp:l8 X N' scope (dM scope.names X.env.cells []) 1 cap) (hA:A.frames=X.A.frames) (hr:eV (k+1) A)
  (zl:∀pm c Ct u,bindArgs (kla_fn "<lambda>" (pB x) params body scope (dM scope.names X.env.cells []) pm (.ref c) Ct) ⟨[u],[]⟩=pure [(y,u)])
  (hb:∀(f c:Addr)(s:Shared)(H:Hp),eV k (yn X N' scope (dM scope.names X.env.cells []) (pB x) A f c s H).A->JE (yn X N' scope (dM scope.names X.env.cells []) (pB x) A f c s H) body fb):JK X A (.Lambda params body scope pos) (qc cap fb):=by
 intro ae s σ H B ρ Q E I sB rep kk;refine Fp hx L hc hq NB S.clos I (rep.tb.mono sB) λf H1 s1 I1 sm lv=>kk f H1 s1 I1 sm ?_;intro GA s' H' N v u d d' I' m1 m2 m3 iv r e;simp only[qc]at e;obtain⟨⟨d2,b2⟩,e1,e2⟩:=oY e;cases e2
 exact IE S N0 cp I' (hA.trans I'.ok.frames) hr.hd hr.depth (lv.mono m1) zl (λf c s H=>hb f c s H (hr.deeper _)) (rep.mono m2) m3 r iv e1 λv' H2 N2 x2 i2 _=>⟨N2,x2,i2⟩
@[simp] noncomputable def sn (g:List D->Option (D×Bool)):Env->D->Option D:=λ_ d=>(g [d]).map (·.1)
theorem Bv (F:Fn X.prog X.w X.K X.mg X.base k x g)(hr:eV k A)(hA:A.frames=X.A.frames)(hg:Gl X x:=by rfl)(rQ:(x == ("__debug__" : Str))=false:=by decide):JK X A (.Name x p) (sn g):=by
 intro ae s σ H B ρ Q E I sB rep kk;obtain⟨ad,fd,ps,F1,hm,hk,hb⟩:=F.ex;refine ur I hg hm ?_ rQ;refine kk ad H s I (.refl H) ?_;intro GA s' H' N v u d d' I' m1 m2 m3 iv r e;simp only[sn]at e;obtain⟨⟨d2,b2⟩,e1,e2⟩:=oY e;cases e2
 have sp:Ih X.K g [v] H' (λv' H2=>∃N',Ext N N' H' H2/\Is X.K N' v' d2) (λ_ _ _=>False):=⟨N,[d],d2,b2,⟨m3,rep.tb.mono m2⟩,.cons iv .nil,e1,λv' H2 N2 x2 i2 _=>⟨N2,x2,i2⟩⟩;have hl:[u].length=ps.length:=by have:=F1.len _ _ _ _ sp;simpa using this
 have e0:=I'.env0;have bb:=hb s' [u] I'.kIn (by simpa using hl);rw[uQ]at bb;refine wpAny_call (codeAny_mono (F1.run A X.stack s' H' ⟨[u],[]⟩ [u] [v] _ (λ_ _ _=>False) hr ⟨hA.trans e0.frames,e0.mod,e0.bs,e0.bsz,e0.funs,e0.frf,e0.hok,e0.bare⟩ bb (.cons r .nil) sp) λr s' hq=>?_);cases r with
 |error e=>exact False.elim hq
 |ok fl=>
  cases fl with
  |ret w=>exact I'.after hq
  |next=>exact False.elim hq
  |brk=>exact False.elim hq
  |cont=>exact False.elim hq
end
noncomputable def jB (f:D->Option D):List D->Option (List D)
 |[]=>some []
 |d::ds=>(f d).bind λx=>(jB f ds).map (x :: ·)
theorem ie:∀ {ds ks:List D},jB f ds=some ks->ks.length=ds.length
 |[],_,h=>by simp only[jB]at h;cases h;rfl
 |d::ds,_,h=>by
  simp only[jB]at h;obtain⟨a,h1,h⟩:=oX h;obtain⟨r,h2,h⟩:=oY h;subst h;simp[ie h2]
theorem m9:∀ {ds ks:List D},jB f ds=some ks->∀ {i:Nat}{d:D},ds[i]? = some d->∃k,ks[i]? = some k/\f d=some k
 |[],_,h,i,d,e=>by simp at e
 |d::ds,_,h,0,e,q=>by
  simp only[jB]at h;obtain⟨a,h1,h⟩:=oX h;obtain⟨r,h2,h⟩:=oY h;subst h;simp at q;subst q;exact⟨a,by simp,h1⟩
 |d::ds,_,h,i+1,e,q=>by
  simp only[jB]at h;obtain⟨a,h1,h⟩:=oX h;obtain⟨r,h2,h⟩:=oY h;subst h;obtain⟨k,z1,z2⟩:=m9 h2 (i:=i) (d:=e) (by simpa using q);exact⟨k,by simpa using z1,z2⟩
structure KK (X:Cx)(A:Around)(kd:List D->Option (List (List At)))(ok:List (List At)->Bool):Prop where
 len:∀ {ds:List D}{ks:List (List At)},kd ds=some ks->ks.length=ds.length
 ask:∀ {ae:List (Addr×Obj)}{σ:St}{H:Hp}{s:Shared}(_:Inv X ae σ H s) {ys:List V}{ds:List D}{ks:List (List At)}{its:List Value},aW ys its->IsL X.K H ys ds->kd ds=some ks->ok ks=true->di ks=true ->
  (0<ks.length->∀ {E:Value->Shared->Prop}{Q:SortKind->Shared->Prop},Q (tuples' true) s->wpAny (model X.prog X.w) A (keyKind' its.toArray) Q E s) /\
  ∀(i j:Nat)(C:Bool->Shared->Prop)(s1:Shared),i<ks.length->j<ks.length->s1=s->(∀s',s'=s->C (pU (z4 ks) i j) s')->kas_ask X.prog X.w A (tuples' true) its i j C s1
theorem Fs:KK X A dj cW:=⟨fB,λI _ _ _ _ r i e hf hc=>have hp:=m7 I r i e;⟨λhn _ _ q=>yf hp hf hn q,Bp hc hp⟩⟩
section
variable {X:Cx}{ae:List (Addr×Obj)}{σ:St}{s:Shared}
theorem tF (r:ba x u):∀ {vs:List V}{us:List Value},aW vs us->aW (vs++[x]) (us++[u])
 |_,_,.nil=>.cons r .nil
 |_,_,.cons h t=>.cons h (tF r t)
theorem dq:∀v,(Obj.mk c od (.seq its n) sl).data≠.cell v:=λv z=>by cases z
theorem Ap 
  (I:Inv X ((a,seqObj "list" its.toArray n)::ae) σ H s) (h0:X.s₀.heap.objs.size<=a) (hp:∀q∈X.pn++ae,q.1≠a) (Lh:Fq X A σ qv B H kf) (rv:aW vs its) (iv:IsL X.K B vs ds) (sB:aU B H)
  (M:KK X A kd ok) (em:jB kf ds=some gP) (ek:kd gP=some ks) (hc:di ks=true) (hf:ok ks=true) (um:its.length<64)
  (h:∀(p:Array Nat)(s':Shared)(H' N:Hp),nj its.length p->Up (z4 ks) p its.length->Inv X ae σ (upd H' a (.lst (p.toList.map λi=>vs.getD i .non))) s'->Ext B N H H'->H' a=none->P (.done (.ret .none)) s'):
  wpAny (model X.prog X.w) A (ksk_tree a qv false) P E s:=by
 have pa:=I.pin (a,seqObj "list" its.toArray n) (mY _ mX)
 have zk:vs.length=its.length:=rv.length
 have Hk:ds.length=vs.length:=iv.length.symm
 have VJ:gP.length=ds.length:=ie em
 have TY:ks.length=gP.length:=M.len ek
 have hz:its.length<=sizeLine:=by rw[sizeLine_eq];omega
 have Zr:H a=none:=pa.2.1
 obtain⟨e1,JL⟩:∃e1,(s.heap.update a (Obj.mapSeq λ_=>(#[]:Array Value))).get? a=some (seqObj "list" #[] e1):=⟨_,get?_update_seq pa.1 λ_=>#[]⟩
 have u1:=vW s.heap a (Obj.mapSeq λ_=>(#[]:Array Value))
 have I1:Inv X ((a,seqObj "list" #[] e1)::ae) σ H { s with heap:=s.heap.update a (Obj.mapSeq λ_=>(#[]:Array Value)) }:=gB (t':=s.toks) I h0 hp (λb u n q=>(u1.2 b n).trans q) JL dq
 let h2:Heap:=(s.heap.update a (Obj.mapSeq λ_=>(#[]:Array Value))).push (seqObj "tuple" its.toArray 0)
 have I2:Inv X ((a,seqObj "list" #[] e1)::ae) σ H { s with heap:=h2 }:=I1.kept (t':=s.toks) λb u q=>vZ _ q
 let kS:Addr:=h2.objs.size
 have I3:Inv X ((kS,seqObj "list" #[] 0)::(a,seqObj "list" #[] e1)::ae) σ H { s with heap:=h2.push (seqObj "list" #[] 0) }:=pj (s:={ s with heap:=h2 }) (t':=s.toks) I2 (λb u q=>vZ _ q) (vT _) (vY _ rfl) dq
 have k0:X.s₀.heap.objs.size<=kS:=I2.sz
 have kp:∀q∈X.pn++((a,seqObj "list" #[] e1)::ae),q.1≠kS:=λq hq=>vS (vX (I2.pin q hq).1)
 have Zs:kS≠a:=λz=>kp (a,seqObj "list" #[] e1) (mY _ mX) z.symm
 unfold ksk_tree
 refine wX (listItems_at pa.1 rfl ?_)
 refine wX (listUpdate_at pa.1 rfl ?_ (by simpa using hz) (uN _))
 refine wX (seqEpoch_at JL rfl ?_)
 refine wX (wpAny_newTuple ?_ (by show its.length<=sizeLine;exact hz))
 refine wX (wpAny_newList ?_ (uN _))
 refine wpAny_holding ?_
 show wpAny (model X.prog X.w) A (ksk_rest a qv false its.toArray e1 (.ref kS)) P E { s with heap:=h2.push (seqObj "list" #[] 0) }
 unfold ksk_rest
 refine wX (wpAny_rule ?_)
 rw[List.forIn_toArray]
 refine wX (ksk_fold (λi s'=>∃(H' N:Hp)(kA:Array Value)(e:Nat)(aL:List V),Inv X ((kS,seqObj "list" kA e)::(a,seqObj "list" #[] e1)::ae) σ H' s'/\Ext B N H H'/\aW aL kA.toList/\IsL X.K N aL (gP.take i)) its 0 _
  ⟨H,B,#[],0,[],I3,.refl sB,.nil,by simpa using IsL.nil⟩ ?step ?done)
 case step=>
  rintro j u s' hu ⟨H',N,kA,e,aL,J,x1,rk,ik⟩
  simp only[Nat.zero_add]at ik ⊢
  have hj:j<its.length:=(vV hu).1
  obtain⟨d,hd⟩:∃d,ds[j]? = some d:=⟨_,vU (by omega)⟩
  obtain⟨v,hv,NC⟩:=iv.get hd
  obtain⟨kd,QF,QG⟩:=m9 em hd
  obtain⟨u',Hm,ru⟩:=rv.get hv
  rw[hu]at Hm;cases Hm
  have kl:kA.size=j:=by
   have z1:=rk.length
   have z2:=ik.length
   rw[List.length_take]at z2
   rw[vG]at z1
   exact z1.symm.trans (z2.trans (Nat.min_eq_left (by omega)))
  refine wX (wpAny_attempt (wpAny_mono (Lh _ s' H' N v u d kd J x1.hh x1.bn x1.nh (NC.mono x1.bn) ru QG) (λw sx hw=>?_) λ_ _ hF=>hF.elim))
  obtain⟨v',XY,J',XZ,N',x2,i2⟩:=hw
  have pk:=J'.pin (kS,seqObj "list" kA e) (mY _ mX)
  obtain⟨c2,wL⟩:∃c2,(sx.heap.update kS (Obj.mapSeq (·.push w))).get? kS=some (seqObj "list" (kA.push w) c2):=⟨_,get?_update_seq pk.1 (·.push w)⟩
  have u2:=vW sx.heap kS (Obj.mapSeq (·.push w))
  refine wX (listUpdate_at pk.1 rfl ?_ (by rw[sizeLine_eq];omega) (vR (Nat.le_of_eq (Array.size_push ..)) (by rw[sizeLine_eq];omega)))
  refine wY ⟨rfl,XY,N',kA.push w,c2,aL++[v'],gB (t':=sx.toks) J' k0 kp (λb q n z=>(u2.2 b n).trans z) wL dq,x1.trans x2,?_,?_⟩
  ·rw[Array.toList_push];exact tF XZ rk
  ·rw[List.take_add_one,QF];exact(ik.mono x2.bn).append (.cons i2 .nil)
 case done=>
  rintro s' ⟨H',N,kA,e,aL,J,x1,rk,ik⟩
  have VL:IsL X.K N aL gP:=by
   have z:gP.take (0+its.length)=gP:=List.take_of_length_le (by omega)
   rw[z]at ik;exact ik
  have pk:=J.pin (kS,seqObj "list" kA e) (mY _ mX)
  have Ya:=J.pin (a,seqObj "list" #[] e1) (mY _ (mZ _ mX))
  have Tf:H' a=none:=Ya.2.1
  have kz:kA.toList.length=its.length:=by rw[←rk.length,VL.length];omega
  have VM:kA.size=its.length:=by rw[←vG];exact kz
  refine wX (listItems_at pk.1 rfl ?_)
  have VN:=M.ask J rk (VL.mono x1.nh) ek hf hc
  -- the end of the sort,for a permutation p
  have GN:∀(st:SortSt)(p:Array Nat),arrOf st=p.map (kas_item (kA.toList.toArray.zip its.toArray))->failedOf st=none->nj its.length p->Up (z4 ks) p its.length ->
    wpAny (model X.prog X.w) A (ksk_tail a false e1 (.ref kS) st) P E s':=λst p ea ef ap up=>by
   have eo:(arrOf st).map (·.2)=List.toArray (p.toList.map λi=>its.getD i Value.none):=kat_snds kz ea
   have DV:∀i∈p.toList,i<vs.length:=λi hi=>by
    have:=List.mem_range.mp (ap.perm.mem_iff.mp hi)
    omega
   obtain⟨c3,Yb⟩:∃c3,(s'.heap.update kS (Obj.mapSeq λ_=>(#[]:Array Value))).get? kS=some (seqObj "list" #[] c3):=⟨_,get?_update_seq pk.1 λ_=>#[]⟩
   have u3:=vW s'.heap kS (Obj.mapSeq λ_=>(#[]:Array Value))
   have J3:=kq (gB (t':=s'.toks) J k0 kp (λb q n z=>(u3.2 b n).trans z) Yb dq)
   have TZ:=J3.pin (a,seqObj "list" #[] e1) (mY _ mX)
   obtain⟨c4,VO⟩:∃c4,((s'.heap.update kS (Obj.mapSeq λ_=>(#[]:Array Value))).update a (Obj.mapSeq λ_=>(arrOf st).map (·.2))).get? a=some (seqObj "list" ((arrOf st).map (·.2)) c4):=⟨_,get?_update_seq TZ.1 λ_=>(arrOf st).map (·.2)⟩
   have u4:=vW (s'.heap.update kS (Obj.mapSeq λ_=>(#[]:Array Value))) a (Obj.mapSeq λ_=>(arrOf st).map (·.2))
   have so:((arrOf st).map (·.2)).size=its.length:=by rw[eo];simp only[vH,vI,vG,ap.size]
   unfold ksk_tail
   try dsimp only
   refine wX (listUpdate_at pk.1 rfl ?_ (by rw[VM,sizeLine_eq];omega) (uN _))
   refine wX (wpAny_letGo ?_)
   refine wX (seqEpoch_at TZ.1 rfl ?_)
   refine wX (listUpdate_at TZ.1 rfl ?_ (uN _) (by simp only[uV,if_false];rw[so,sizeLine_eq];omega))
   rw[ef]
   simp only[bne_self_eq_false,uV,if_false]
   refine wY (h p _ H' N ap up (IF (s:={ s' with heap:=s'.heap.update kS (Obj.mapSeq λ_=>(#[]:Array Value)) }) (t':=s'.toks) J3 h0 hp (λb q n z=>(u4.2 b n).trans z) ⟨_,VO⟩ ?_) x1 Tf)
   refine⟨by rw[vI,vG,ap.size];exact hz,p.toList.map λi=>its.getD i Value.none,c4,nG rv p.toList DV,?_⟩
   rw[←eo];exact VO
  unfold ksk_end
  try dsimp only
  simp only[uV,if_false]
  have Yc:kA=kA.toList.toArray:=by simp
  by_cases DE:its.toArray.size<2
  ·rw[if_pos DE,if_pos DE]
   refine wX (wY ?_)
   rw[StateT.run_pure]
   refine wX (wY ?_)
   have TR:its.length<2:=by simpa using DE
   refine GN _ (List.toArray (List.range its.length)) ?_ rfl ⟨by simp,by simp⟩ ?_
   ·show kA.zip its.toArray=_
    have:=kas_range (kA.toList.toArray.zip its.toArray)
    rw[show(kA.toList.toArray.zip its.toArray).size=its.length by simp[VM]]at this
    rw[this]
   ·intro i j zn hj
    have:i=j:=by omega
    subst this;exact Int.le_refl _
  ·rw[if_neg DE,if_neg DE]
   have Ua:2<=its.length:=by simp at DE;omega
   rw[Yc]
   refine wX (VN.1 (by omega) ?_)
   obtain⟨p,r1,r2,r3⟩:=ya (n:=its.length) (rk:=z4 ks) (by omega)
   refine wX (wpAny_mono (kat_run (E:=E) (ks:=kA.toList) (vs:=its) (κ:=tuples' true) (s:=s') (Q:=λjS s2=>s2=s'/\arrOf jS=p.map (kas_item (kA.toList.toArray.zip its.toArray))/\failedOf jS=none)
    (G:=λp' s2=>p'=p/\s2=s') kz Ua um (λp' jS s2 _ e2 e3 e4=>by
     obtain⟨rfl,rfl⟩:=e4
     exact⟨rfl,e2,e3⟩) (Run.wp (λs2=>s2=s') (λi j C s2 hi hj e hC=>VN.2 i j C s2 (by omega) (by omega) e hC) r1 rfl λs2 e=>⟨rfl,e⟩)) (λr s2 hr=>?_) λ_ _ z=>z)
   obtain⟨⟨⟩,jS⟩:=r
   obtain⟨rfl,e2,e3⟩:=hr
   exact GN jS p e2 e3 r2 r3
end
theorem yo {α β:Type}{f:α->β}:∀ {l:List α},(l.map f).Nodup->l.Nodup
 |[],_=>List.nodup_nil
 |a::l,h=>by
  rw[uY,List.nodup_cons]at h;exact List.nodup_cons.mpr ⟨λz=>h.1 (uS ⟨a,z,rfl⟩),yo h.2⟩
def jn (ks:List (List At))(ds:List D):List D:=(dw (λp:List At×D=>cw p.1) (ks.zip ds)).map (·.2)
theorem Ft {α β:Type}(d:α)(e:β):∀ {l₁:List α}{l₂:List β},l₁.length=l₂.length->(List.range l₂.length).map (λi=>(l₁.getD i d,l₂.getD i e))=l₁.zip l₂:=λ{l₁ l₂} h=>by
 apply List.ext_getElem?;intro i;by_cases hi:i<l₂.length
 ·have DG:i<l₁.length:=by omega
  have:=(List.getElem?_zip_eq_some (z:=(l₁[i],l₂[i]))).mpr ⟨vU DG,vU hi⟩;rw[this];simp[hi,DG]
 ·simp[hi,h]
theorem IG {α β:Type}{l₁:List α}{l₂:List β}(nd:l₁.Nodup){a:α}{b c:β}(h1:(a,b)∈l₁.zip l₂)(h2:(a,c)∈l₁.zip l₂):b=c:=by
 obtain⟨i,hi⟩:=List.mem_iff_getElem?.mp h1;obtain⟨j,hj⟩:=List.mem_iff_getElem?.mp h2;obtain⟨i1,i2⟩:=List.getElem?_zip_eq_some.mp hi;obtain⟨j1,j2⟩:=List.getElem?_zip_eq_some.mp hj;obtain⟨li,ei⟩:=vV i1;obtain⟨lj,ej⟩:=vV j1;have:i=j:=(List.getElem_inj nd).mp (ei.trans ej.symm);subst this;rw[i2]at j2;exact vK j2
theorem Aq {ds:List D}{ks:List (List At)}{p:Array Nat}(hl:ks.length=ds.length)(hc:di ks=true)(nd:ks.Nodup)(ap:nj ds.length p)(up:Up (z4 ks) p ds.length):p.toList.map (λi=>ds.getD i .non)=jn ks ds:=by
 unfold jn;have e:p.toList.map (λi=>(ks.getD i [],ds.getD i .non))=dw (λp:List At×D=>cw p.1) (ks.zip ds):=by
  apply ib
  ·intro x hx y hy e;have mx:=(List.of_mem_zip hx).1;have my:=(List.of_mem_zip hy).1;have:=kT hc mx my e;obtain⟨k1,d1⟩:=x;obtain⟨k2,d2⟩:=y;have z:k1=k2:=this;subst z;rw[IG nd hx hy]
  ·have:=ap.perm.map (λi=>(ks.getD i [],ds.getD i D.non));rw[Ft [] D.non hl]at this;exact this
  ·rw[List.pairwise_iff_getElem];intro i j hi hj zn;have hsz:=ap.size;have DG:i<p.size:=by simpa using hi
   have Ox:j<p.size:=by simpa using hj
   have:=up i j (Nat.le_of_lt zn) (by omega);unfold cr z4 at this;have gi:p.getD i 0=p[i]:=by rw[Array.getD_eq_getD_getElem?,Array.getElem?_eq_getElem DG];rfl
   have gj:p.getD j 0=p[j]:=by rw[Array.getD_eq_getD_getElem?,Array.getElem?_eq_getElem Ox];rfl
   have lj:=ap.lt (k:=j) (by omega);have mj:ks.getD (p.getD j 0) []∈ks:=by
    have h':p.getD j 0<ks.length:=by omega
    rw[vF,vU h'];exact List.getElem_mem h'
   have nl:¬cw (ks.getD (p.getD j 0) [])<cw (ks.getD (p.getD i 0) []):=λz=>by
    have:=vv (cs:=ks.map cw) (uS ⟨_,mj,rfl⟩) z;omega
   simp only[List.getElem_map,Array.getElem_toList];unfold Fj;rw[←gi,←gj];exact nl
 rw[←e,uP];rfl
@[simp] def vz (kd:List D->Option (List (List At)))(ok:List (List At)->Bool)(f:FE)(kf:Env->D->Option D):FE:=λρ=>(f ρ).bind λx=>match x.1 with
 |.lst ds=>(jB (kf ρ) ds).bind λgP=>(kd gP).bind λks=>if ks.length<64/\di ks=true/\ok ks=true/\(ks.map cw).Nodup then some (.lst (jn ks ds),true)else none
 |_=>none
@[simp] abbrev qd:FE->(Env->D->Option D)->FE:=vz dj cW
section
variable {X:Cx}{e ke:Expr}{p pos kp:Pos}
theorem Fu {kd:List D->Option (List (List At))}{ok:List (List At)->Bool}(M:KK X X.A.in1.in1 kd ok){f:FE}{kf:Env->D->Option D}(hm:X.mg "sorted" = none)(he:JE X e f)(hk:JK X X.A.in1.in1 ke kf)(hg:Gl X "sorted":=by rfl)
  (Ub:starEach [e] X.env=[(false,eval e X.env)]:=by rfl) (Uc:backTo pos (starEach [e] X.env)=(false,eval e X.env)::backTo pos (starEach [] X.env):=by rfl) (lz:(backTo pos (starEach [e] X.env)).any (·.1)=false:=by rfl)
  (lf:(backToKw pos (keywordEach [⟨some "key",ke,kp⟩] X.env)).all (·.1.isSome)=true:=by rfl) (Ud:(backToKw pos (keywordEach [⟨some "key",ke,kp⟩] X.env)).any (·.1.isNone)=false:=by rfl)
  (Ue:(backToKw pos (keywordEach [⟨some "key",ke,kp⟩] X.env)).filterMap (·.1)=[("key" : Str)]:=by rfl):
  JE X (.Call (.Name "sorted" p) [e] [⟨some "key",ke,kp⟩] pos) (vz kd ok f kf):=by
 intro ae s σ H Q I h;obtain⟨B,ρ,d,b,sB,rep,ee,q⟩:=h;obtain⟨⟨xd,xb⟩,ex,ee⟩:=oX ee;cases xd<;>try (cases ee;done)
 rename_i ds;obtain⟨gP,em,ee⟩:=oX ee;obtain⟨ks,ek,ee⟩:=oX ee;split at ee
 ·rename_i hh;obtain⟨um,hc,hf,nd⟩:=hh;cases ee
  refine wpAny_Call_Name_kw (lB I hg hm (u:=.builtin "sorted") rfl ?_);refine callWith_kw (cV ((iI he jX Ub) pos ae s σ H (λvs H1=>∃v N,vs=[v]/\Ext B N H H1/\Is X.K N v (.lst ds)) I ⟨B,ρ,_,_,sB,rep,ex,λv H1 N x1 i1 _=>⟨v,N,rfl,x1,i1⟩⟩) λus s1 hA=>?_) Uc lz lf Ud;obtain⟨Yd,H1,I1,r1,v,N,rfl,x1,i1⟩:=hA;obtain⟨u,rfl,ru⟩:=gM r1;refine kws_cons (hk ae s1 σ H1 N ρ _ _ I1 x1.nh (rep.mono x1.bn) λqa H2 s2 I2 m2 Lh=>kws_nil ?_);rw[Ue];show wpAny _ _ (call (.builtin "sorted") [u] [(("key" : Str),.ref qa)]) _ _ _;cases i1
  rename_i l vs hq il;cases ru
  have sN:aU N H2:=x1.nh.trans m2;obtain⟨its,rv,pl,hz⟩:=I2.list (sN.seq hq);have zk:vs.length=its.length:=rv.length;have Hk:ds.length=vs.length:=il.length.symm;have VJ:gP.length=ds.length:=ie em;have TY:ks.length=gP.length:=M.len ek;have Uf:its.length<64:=by omega
  refine call_function_entry_kw kind_sorted plain_sorted entry_sorted (ksk_s1 _ _) ?_;unfold Builtin.«sorted»;refine wX (m:=checkCount "sorted" 1 1 _) (wY (wX (collect_list pl.isList (wX (wpAny_newList ?_ (by rw[sizeLine_eq];omega))) (by rw[sizeLine_eq];omega))));let h1:Heap:=(s2.heap.push (seqObj "list" #[] 0)).update s2.heap.objs.size (Obj.mapSeq (· ++ its.toArray));have hsz:h1.objs.size=s2.heap.objs.size+1:=by show(Heap.update _ _ _).objs.size=_;rw[Heap.size_update,size_push']
  have QH:∀b o,s2.heap.get? b=some o->h1.get? b=some o:=λb o q=>(Heap.get?_update_ne _ _ _ _ (vS (vX q))).trans (vZ _ q);have I3:Inv X ((h1.objs.size,seqObj "list" its.toArray 0)::ae) σ H2 { s2 with heap:=h1.push (seqObj "list" its.toArray 0) } :=
   pj (t':=s2.toks) I2 (λb u q=>vZ _ (QH b u q)) (by rw[hsz];exact Nat.le_succ _) (vY _ rfl) dq
  have p3:=I3.pin (h1.objs.size,seqObj "list" its.toArray 0) (mY _ mX);show wpAny (model X.prog X.w) X.A.in1 (holding [.ref h1.objs.size] (call (.builtin "list.sort") [.ref h1.objs.size] [(("key" : Str),.ref qa)])>>=_) _ _ { s2 with heap:=h1.push (seqObj "list" its.toArray 0) };refine wX (wpAny_holding (wpAny_call_entry_kw slot_list_sort ⟨_,p3.1,rfl⟩ entry_list_sort ?_ (ksk_l1 _ _)));show wpAny (model X.prog X.w) X.A.in1.in1 (Builtin.«list.sort» ⟨[.ref h1.objs.size],[(Str.ofString "key",.ref qa)]⟩) _ _ _;rw[ksk_t1];refine Ap I3 (vR I2.sz (by rw[hsz];exact Nat.le_succ _)) (λq hq=>by rw[hsz];exact vS (Nat.lt_succ_of_lt (vX (I2.pin q hq).1))) Lh rv il sN M em ek hc hf Uf λpm s' H' N' ap up J x3 hn=>⟨_,rfl,wY ⟨_,rfl,?_⟩⟩;have lz:its.length=ds.length:=by omega
  rw[lz]at ap up;have er:=Aq (by omega) hc (yo nd) ap up;have DV:∀i∈pm.toList,i<ds.length:=λi hi=>List.mem_range.mp (ap.perm.mem_iff.mp hi);have ip:=pZ (il.mono x3.bn) pm.toList DV;rw[er]at ip;have x4:Ext B N' H H':=(x1.trans (.grow x1.nh m2)).trans x3;have hN:N' h1.objs.size=none:=x3.nh.free hn;have x5:=x4.trans (Ext.laid (o:=.lst (pm.toList.map λi=>vs.getD i .non)) x3.nh hn);exact⟨.ref h1.objs.size,_,J,rfl,q _ _ _ x5 (.lst (iF.of aE) (ip.mono (Ext.laid (o:=.lst (pm.toList.map λi=>vs.getD i .non)) x3.nh hn).bn)) λ_=>⟨_,_,_,rfl,rfl,x4.hh.free hn,aE,ip.mono (Ext.laid (o:=.lst (pm.toList.map λi=>vs.getD i .non)) x3.nh hn).bn⟩⟩
 ·cases ee
end
section
variable {prog:Program}{w:World}{A:Around}{E:Value->Shared->Prop}{s:Shared}
theorem fj.type (h:fj s.heap xs v):s.TypeIs v "tuple":=by
 obtain⟨a,o,its,n,rfl,ho,hc,_⟩:=h;exact⟨o,ho,hc⟩
theorem Fv (hx:fj s.heap xs (.ref a))(hy:fj s.heap ys (.ref b))(h:aY xs ys=some r)(q:P (.done (.ret (.bool r))) s):wpAny (model prog w) A (Builtin.«tuple.__lt__» ⟨[.ref a,.ref b],[]⟩) P E s:=by
 have Ug:=hy.type;obtain⟨a',oa,its,na,ea,Qp,_,Uh,ra⟩:=hx;obtain⟨b',ob,gp,nb,eb,Ui,_,rQ,rb⟩:=hy;cases ea
 cases eb
 show wpAny _ _ (isInstance (.ref _) (.type "tuple")>>=_) _ _ s;refine wX (wpAny_isInstance Ug isSubtype_tuple_tuple ?_);simp only[Bool.not_true,uV,if_false];refine wX (wpAny_tupleItemsOf Qp Uh ?_);refine wX (wpAny_tupleItemsOf Ui rQ ?_);refine wX ?_;refine wpAny_forIn_list _
  (λaD z s'=>z.1=none/\s'=s/\∃JN JP its' rT n,aD=List.zip its' rT/\Paired ye JN its'/\Paired ye JP rT/\aY JN JP=some r/\its'.length+n=its.size/\rT.length+n=gp.size)
  _ ?_ ?_ _ _ ⟨rfl,rfl,xs,ys,its.toList,gp.toList,0,rfl,ra,rb,h,by simp,by simp⟩
 ·rintro⟨u,v⟩ aD z s' ⟨hz,rfl,JN,JP,its',rT,n,e,p1,p2,hl,n1,n2⟩;cases p1 with
  |nil=>simp at e
  |@cons x u' GO zo r1 QI=>
   cases p2 with
   |nil=>simp at e
   |@cons y v' GP zp r2 QJ=>
    simp only[List.zip_cons_cons,List.cons.injEq,Prod.mk.injEq]at e;obtain⟨⟨rfl,rfl⟩,rfl⟩:=e;cases x with
    |i i=>
     cases y with
     |s j=>simp[aY]at hl
     |i j=>
      obtain⟨t,rfl⟩:=r1;obtain⟨t',rfl⟩:=r2;rw[aY]at hl;refine wX (wpAny_eqBool_int ?_);by_cases hk:i=j
      ·rw[if_pos hk]at hl;rw[show(i == j)=true by simp[hk]];simp only[Bool.not_true,uV,if_false];exact wY ⟨rfl,rfl,GO,GP,zo,zp,n+1,rfl,QI,QJ,hl,by rw[←n1,vE];omega,by rw[←n2,vE];omega⟩
      ·rw[if_neg hk]at hl;cases hl
       rw[show(i == j)=false by simp[hk]];simp only[Bool.not_false,if_true];refine wX (wpAny_rule (wX (m:=richCompare .Lt (.int i t) (.int j t')) (wpAny_mono (show wpAny _ _ (richCompare .Lt (.int i t) (.int j t')) (λv sx=>v=.bool (decide (i<j))/\sx=s') E s' from PyProof.Rows.lt_int ⟨rfl,rfl⟩) (λv sx hv=>?_) λ_ _ z=>z)));obtain⟨rfl,rfl⟩:=hv;exact wX (wY (wY (wY q)))
    |s i=>
     cases y with
     |i j=>simp[aY]at hl
     |s j=>
      obtain⟨t,rfl⟩:=r1;obtain⟨t',rfl⟩:=r2;rw[aY]at hl;refine wX (wpAny_eqBool_str ?_);by_cases hk:i=j
      ·rw[if_pos hk]at hl;rw[decide_eq_true hk];simp only[Bool.not_true,uV,if_false];exact wY ⟨rfl,rfl,GO,GP,zo,zp,n+1,rfl,QI,QJ,hl,by rw[←n1,vE];omega,by rw[←n2,vE];omega⟩
      ·rw[if_neg hk]at hl;cases hl
       rw[decide_eq_false hk];simp only[Bool.not_false,if_true];refine wX (wpAny_rule (wX (m:=richCompare .Lt (.str i t) (.str j t')) (wpAny_mono (show wpAny _ _ (richCompare .Lt (.str i t) (.str j t')) (λv sx=>v=.bool (decide (i.cps.toList<j.cps.toList))/\sx=s') E s' from PySem.P.lt_str ⟨rfl,rfl⟩) (λv sx hv=>?_) λ_ _ z=>z)));obtain⟨rfl,rfl⟩:=hv;exact wX (wY (wY (wY q)))
 ·rintro⟨z1,z2⟩ s' ⟨hz,rfl,JN,JP,its',rT,n,e,p1,p2,hl,n1,n2⟩;simp only at hz;subst hz;refine wY ?_;have:decide (its.size<gp.size)=r:=by
   cases p1 with
   |nil=>
    cases p2 with
    |nil=>simp[aY]at hl;subst hl;simp at n1 n2;simp;omega
    |cons _ _=>simp[aY]at hl;subst hl;simp at n1 n2;simp;omega
   |cons _ _=>
    cases p2 with
    |nil=>simp[aY]at hl;subst hl;simp at n1 n2;simp;omega
    |cons _ _=>simp at e
  show P (.done (.ret (.bool (decide (its.size<gp.size))))) s';rw[this];exact q
theorem Fw (hx:fj s.heap xs (.ref a))(hy:fj s.heap ys (.ref b))(h:aY ys xs=some r)(q:P (.done (.ret (.bool r))) s):wpAny (model prog w) A (Builtin.«tuple.__gt__» ⟨[.ref a,.ref b],[]⟩) P E s:=by
 have Ug:=hy.type;obtain⟨a',oa,its,na,ea,Qp,_,Uh,ra⟩:=hx;obtain⟨b',ob,gp,nb,eb,Ui,_,rQ,rb⟩:=hy;cases ea
 cases eb
 show wpAny _ _ (isInstance (.ref _) (.type "tuple")>>=_) _ _ s;refine wX (wpAny_isInstance Ug isSubtype_tuple_tuple ?_);simp only[Bool.not_true,uV,if_false];refine wX (wpAny_tupleItemsOf Qp Uh ?_);refine wX (wpAny_tupleItemsOf Ui rQ ?_);refine wX ?_;refine wpAny_forIn_list _
  (λaD z s'=>z.1=none/\s'=s/\∃JN JP its' rT n,aD=List.zip its' rT/\Paired ye JN its'/\Paired ye JP rT/\aY JP JN=some r/\its'.length+n=its.size/\rT.length+n=gp.size)
  _ ?_ ?_ _ _ ⟨rfl,rfl,xs,ys,its.toList,gp.toList,0,rfl,ra,rb,h,by simp,by simp⟩
 ·rintro⟨u,v⟩ aD z s' ⟨hz,rfl,JN,JP,its',rT,n,e,p1,p2,hl,n1,n2⟩;cases p1 with
  |nil=>simp at e
  |@cons x u' GO zo r1 QI=>
   cases p2 with
   |nil=>simp at e
   |@cons y v' GP zp r2 QJ=>
    simp only[List.zip_cons_cons,List.cons.injEq,Prod.mk.injEq]at e;obtain⟨⟨rfl,rfl⟩,rfl⟩:=e;cases x with
    |i i=>
     cases y with
     |s j=>simp[aY]at hl
     |i j=>
      obtain⟨t,rfl⟩:=r1;obtain⟨t',rfl⟩:=r2;rw[aY]at hl;refine wX (wpAny_eqBool_int ?_);by_cases hk:j=i
      ·rw[if_pos hk]at hl;rw[show(i == j)=true by simp[hk]];simp only[Bool.not_true,uV,if_false];exact wY ⟨rfl,rfl,GO,GP,zo,zp,n+1,rfl,QI,QJ,hl,by rw[←n1,vE];omega,by rw[←n2,vE];omega⟩
      ·rw[if_neg hk]at hl;cases hl
       rw[show(i == j)=false by simp;exact λz=>hk z.symm];simp only[Bool.not_false,if_true];refine wX (wpAny_rule (wX (m:=richCompare .Gt (.int i t) (.int j t')) (wpAny_mono (show wpAny _ _ (richCompare .Gt (.int i t) (.int j t')) (λv sx=>v=.bool (decide (j<i))/\sx=s') E s' from PyProof.Rows.gt_int ⟨rfl,rfl⟩) (λv sx hv=>?_) λ_ _ z=>z)));obtain⟨rfl,rfl⟩:=hv;exact wX (wY (wY (wY q)))
    |s i=>
     cases y with
     |i j=>simp[aY]at hl
     |s j=>
      obtain⟨t,rfl⟩:=r1;obtain⟨t',rfl⟩:=r2;rw[aY]at hl;refine wX (wpAny_eqBool_str ?_);by_cases hk:j=i
      ·rw[if_pos hk]at hl;rw[decide_eq_true hk.symm];simp only[Bool.not_true,uV,if_false];exact wY ⟨rfl,rfl,GO,GP,zo,zp,n+1,rfl,QI,QJ,hl,by rw[←n1,vE];omega,by rw[←n2,vE];omega⟩
      ·rw[if_neg hk]at hl;cases hl
       rw[decide_eq_false λz=>hk z.symm];simp only[Bool.not_false,if_true];refine wX (wpAny_rule (wX (m:=richCompare .Gt (.str i t) (.str j t')) (wpAny_mono (show wpAny _ _ (richCompare .Gt (.str i t) (.str j t')) (λv sx=>v=.bool (decide (j.cps.toList<i.cps.toList))/\sx=s') E s' from PySem.P.gt_str ⟨rfl,rfl⟩) (λv sx hv=>?_) λ_ _ z=>z)));obtain⟨rfl,rfl⟩:=hv;exact wX (wY (wY (wY q)))
 ·rintro⟨z1,z2⟩ s' ⟨hz,rfl,JN,JP,its',rT,n,e,p1,p2,hl,n1,n2⟩;simp only at hz;subst hz;refine wY ?_;have:decide (gp.size<its.size)=r:=by
   cases p1 with
   |nil=>
    cases p2 with
    |nil=>simp[aY]at hl;subst hl;simp at n1 n2;simp;omega
    |cons _ _=>simp[aY]at hl;subst hl;simp at n1 n2;simp;omega
   |cons _ _=>
    cases p2 with
    |nil=>simp[aY]at hl;subst hl;simp at n1 n2;simp;omega
    |cons _ _=>simp at e
  show P (.done (.ret (.bool (decide (gp.size<its.size))))) s';rw[this];exact q
theorem Fx (hx:fj s.heap xs x)(hy:fj s.heap ys y)(h:aY xs ys=some r)(hu:A.units<cLine)(q:Q (.bool r) s):wpAny (model prog w) A (richCompare .Lt x y) Q E s:=by
 have tx:=hx.type;have ty:=hy.type;obtain⟨a,_,_,_,rfl,_⟩:=id hx;obtain⟨b,_,_,_,rfl,_⟩:=id hy;exact wpAny_richCompare_same_room (op:=.Lt) tx ty PySem.F.slot_tuple_lt (wpAny_call_entry PySem.F.slot_tuple_lt tx PySem.F.entry_tuple_lt (Fv hx hy h ⟨_,rfl,(λe=>nomatch e),q⟩) (PySem.F.args_tuple_lt_2 _ _)) hu
theorem PL (hx:fj s.heap xs x)(hy:fj s.heap ys y)(h:aY ys xs=some r)(hu:A.units<cLine)(q:Q (.bool r) s):wpAny (model prog w) A (richCompare .Gt x y) Q E s:=by
 have tx:=hx.type;have ty:=hy.type;obtain⟨a,_,_,_,rfl,_⟩:=id hx;obtain⟨b,_,_,_,rfl,_⟩:=id hy;exact wpAny_richCompare_same_room (op:=.Gt) tx ty PySem.F.slot_tuple_gt (wpAny_call_entry PySem.F.slot_tuple_gt tx PySem.F.entry_tuple_gt (Fw hx hy h ⟨_,rfl,(λe=>nomatch e),q⟩) (PySem.F.args_tuple_gt_2 _ _)) hu
end
def mB:List At×D->List (List At×D)->D
 |b,[]=>b.2
 |b,x::r=>if aY b.1 x.1=some true then mB x r else mB b r
def ls:List At×D->List (List At×D)->D
 |b,[]=>b.2
 |b,x::r=>if aY x.1 b.1=some true then ls x r else ls b r
noncomputable def W6 {f:String->CmpOp->Builtin}(_:f "max" .Gt=Builtin.«max.loop»):=f
noncomputable def W7:String->CmpOp->Builtin:=W6 rfl
noncomputable def W8 {f:String->Builtin}(_:f "max" = Builtin.«max»):=f
noncomputable def W9:String->Builtin:=W8 rfl
structure MM (nm lp:String)(ns:Str)(op:CmpOp)(lt:List At->List At->Option Bool)(go:List At×D->List (List At×D)->D):Prop where
 hn:(toString nm++toString ".loop" : String)=lp
 en:entryFor table lp=some (W7 nm op)
 pl:plainId lp=true
 k2:builtinKind nm=none
 p2:plainId nm=true
 e2:entryFor table nm=some (W9 nm)
 ka:∀a v:Value,argsOk nm ⟨[a],[(Str.ofString "key",v)]⟩
 bt:bootBuiltins ns=some (.builtin nm)
 n1:ns ≠ "__name__"
 n2:(ns == ("__debug__" : Str))=false
 g0:∀b,go b []=b.2
 g1:∀b x r,go b (x::r)=if lt b.1 x.1=some true then go x r else go b r
 cg:∀ {ks:List (List At)},di ks=true->∀ {a b},a∈ks->b∈ks->∃r,lt a b=some r
 rc:∀ {prog:Program}{w:World}{A:Around}{E:Value->Shared->Prop}{s:Shared}{xs ys:List At}{x y:Value}{r:Bool}{Q:Value->Shared->Prop},fj s.heap xs x->fj s.heap ys y->lt ys xs=some r->A.units<cLine->Q (.bool r) s->wpAny (model prog w) A (richCompare op x y) Q E s
theorem UN:MM "max" "max.loop" "max" .Gt aY mB :=
 ⟨by decide,PySem.F.entry_max_loop,PySem.F.plain_max_loop,PySem.F.kind_max,PySem.F.plain_max,PySem.F.entry_max,λ_ _=>by unfold argsOk;kernel_rfl,rfl,by decide,by decide,λ_=>rfl,λ_ _ _=>rfl,λh _ _ a b=>⟨_,gX h a b⟩,PL⟩
theorem SI:MM "min" "min.loop" "min" .Lt (λa b=>aY b a) ls :=
 ⟨by decide,PySem.F.entry_min_loop,PySem.F.plain_min_loop,PySem.F.kind_min,PySem.F.plain_min,PySem.F.entry_min,λ_ _=>by unfold argsOk;kernel_rfl,rfl,by decide,by decide,λ_=>rfl,λ_ _ _=>rfl,λh _ _ a b=>⟨_,gX h b a⟩,Fx⟩
section
variable {X:Cx}{ae:List (Addr×Obj)}{σ:St}
theorem qe (J:Inv X ((a1,o1)::(a2,o2)::ae) σ H' s'):Inv X ((a2,o2)::(a1,o1)::ae) σ H' s' :=
 J.pins_of λq hq=>J.pin q (by
  rcases vP hq with rfl|hq
  ·exact mY _ (mZ _ mX)
  ·rcases vP hq with rfl|hq
   ·exact mY _ mX
   ·exact mY _ (mZ _ (mZ _ hq)))
theorem qg (hp:∀q∈X.pn++ae,q.1≠a)(h:S≠a):∀q∈X.pn++((S,o)::ae),q.1≠a:=λq hq=>by
 rcases List.mem_append.mp hq with hq|hq
 ·exact hp q (List.mem_append_left _ hq)
 ·rcases vP hq with rfl|hq
  ·exact h
  ·exact hp q (mY _ hq)
theorem pq (I:Inv X ae σ H s)(r:ba v u)(i:Is X.K H v d)(e:m5 d=some k):fj s.heap k u:=by
 have:=m7 I (ys:=[v]) (ds:=[d]) (ks:=[k]) (its:=[u]) (.cons r .nil) (.cons i .nil) (by simp only[dj,e];rfl);cases this;assumption
theorem IH {nm lp:String}{ns:Str}{op:CmpOp}{lt:List At->List At->Option Bool}{go:List At×D->List (List At×D)->D}(M:MM nm lp ns op lt go){qv:Value}{l S It:Addr}{vs:List V}{ds gP:List D}{ks:List (List At)}{B H1:Hp}{kf:D->Option D}{d0:D}{R:Result->Shared->Prop}(hh:X.A.handled=none)(hu:X.A.in1.units<cLine)(Lh:Fq X X.A.in1 σ qv B H1 kf)(Ye:∃a,qv=.ref a)(hq:iF X.K B l vs)(iv:IsL X.K B vs ds)
  (em:jB kf ds=some gP) (ek:dj gP=some ks) (hc:di ks=true) (S0:X.s₀.heap.objs.size<=S) (I0:X.s₀.heap.objs.size<=It) (QK:∀q∈X.pn++ae,q.1≠S) (QL:∀q∈X.pn++ae,q.1≠It) (DW:S≠It) (RN:S≠l) (QM:l≠It)
  (hR:∀(s':Shared)(H' N:Hp)(v:V)(u:Value),Inv X ae σ H' s'->Ext B N H1 H'->ba v u->Is X.K N v d0->R (.ok (.ret u)) s'):
  ∀(r j:Nat)(s:Shared)(H N:Hp)(ub zq:Value)(vb QN:V)(db QO:D)(kb:List At)(c:Nat)(oI:Obj),vs.length - j=r->j<=vs.length->Inv X ((S,seqObj "list" #[ub,zq] c)::(It,oI)::ae) σ H s->s.heap.IsListIter It l j->Ext B N H1 H ->
   ba vb ub->Is X.K N vb db->ba QN zq->Is X.K N QN QO->m5 QO=some kb->kb∈ks->go (kb,db) ((ks.zip ds).drop j)=d0 ->
   codeAny (model X.prog X.w) X.A (.builtin lp ⟨[.ref It,qv,.ref S],[]⟩) R s:=by
 obtain⟨qa,rfl⟩:=Ye;intro r;induction r with
 |zero=>
  intro j s H N ub zq vb QN db QO kb c oI hr hj I Hl x1 r1 i1 r2 i2 ekb mk hd;have pS:=I.pin (S,seqObj "list" #[ub,zq] c) (mY _ mX);have sB:aU B H:=x1.bn.trans x1.nh;obtain⟨its,rv,pl,_⟩:=I.list (sB.seq hq);have hl:=pl.isList;have W:=Walks.list (prog:=X.prog) (w:=X.w) (A:=X.A.in1) hh It l QM its.toArray;have hsz:its.toArray.size=its.length:=vH ..;have zk:vs.length=its.length:=rv.length;have Hk:ds.length=its.length:=by rw[←iv.length];exact rv.length
  have RL:ks.length=ds.length:=by rw[fB ek,ie em]
  have D9:db=d0:=by
   rw[List.drop_of_length_le (by rw[List.length_zip];omega)]at hd;rw[M.g0]at hd;exact hd
  subst D9;refine codeAny_builtin M.en ?_;rw[Around.under_plainId M.pl _];show wpAny _ X.A.in1 (seqItems? (.ref S)>>=_) _ _ _;refine wX (wpAny_seqItems pS.1 rfl ?_);show wpAny _ X.A.in1 (tryCatch (pyNext (.ref It)) _>>=_) _ _ _;refine wX (wpAny_tryCatch (W.done _ _ _ ⟨by rw[hsz,show its.length=j by omega];exact Hl,hl⟩ λh' Cs fG=>?_));have J1:Inv X ((It,oI)::(S,seqObj "list" #[ub,zq] c)::ae) σ H s:=qe I;have GQ:∀q∈X.pn++((S,seqObj "list" #[ub,zq] c)::ae),q.1≠It:=qg QL DW;have J2:Inv X ((S,seqObj "list" #[ub,zq] c)::ae) σ H { s with heap:=h',toks:=Cs } :=
   (kq J1).turned (t':=Cs) (λb o n e=>fG b o (by simpa using n) e) (J1.pin (It,oI) (mY _ mX)).2.1 (J1.pin (It,oI) (mY _ mX)).2.2.1 (.inr I0) (nH J1) GQ
  have VP:=J2.pin (S,seqObj "list" #[ub,zq] c) (mY _ mX);obtain⟨c2,wL⟩:∃c2,(h'.update S (Obj.mapSeq λ_=>(#[]:Array Value))).get? S=some (seqObj "list" #[] c2):=⟨_,get?_update_seq VP.1 λ_=>#[]⟩;have u2:=vW h' S (Obj.mapSeq λ_=>(#[]:Array Value));show wpAny _ X.A.in1 (updateSeq S (λ_=>#[])>>=_) _ _ _;refine wX ?_;refine wpAny_updateSeq VP.1 rfl (wX (wpAny_letGo (wY ?_)));exact hR _ H N vb ub (kq (gB (t':=Cs) J2 S0 QK (λb o n e=>(u2.2 b n).trans e) wL dq)) x1 r1 i1
 |succ r ih=>
  intro j s H N ub zq vb QN db QO kb c oI hr hj I Hl x1 r1 i1 r2 i2 ekb mk hd;have fR:j<vs.length:=by omega
  have pS:=I.pin (S,seqObj "list" #[ub,zq] c) (mY _ mX);have sB:aU B H:=x1.bn.trans x1.nh;obtain⟨its,rv,pl,_⟩:=I.list (sB.seq hq);have hl:=pl.isList;have W:=Walks.list (prog:=X.prog) (w:=X.w) (A:=X.A.in1) hh It l QM its.toArray;have hsz:its.toArray.size=its.length:=vH ..;have zk:vs.length=its.length:=rv.length;have Hk:ds.length=its.length:=by rw[←iv.length];exact rv.length
  have RL:ks.length=ds.length:=by rw[fB ek,ie em]
  refine codeAny_builtin M.en ?_;rw[Around.under_plainId M.pl _];show wpAny _ X.A.in1 (seqItems? (.ref S)>>=_) _ _ _;refine wX (wpAny_seqItems pS.1 rfl ?_);show wpAny _ X.A.in1 (tryCatch (pyNext (.ref It)) _>>=_) _ _ _;refine wX (wpAny_tryCatch (W.item j _ _ _ (by rw[hsz];omega) ⟨Hl,hl⟩ λu h' Cs hP hst' fG=>?_));have Hm:its[j]? = some u:=by simpa using hP
  obtain⟨d,Uj⟩:∃d,ds[j]? = some d:=⟨_,vU (by omega)⟩;obtain⟨v,hv,NC⟩:=iv.get Uj;obtain⟨kd,QF,QG⟩:=m9 em Uj;obtain⟨u2,QP,ru⟩:=rv.get hv;rw[Hm]at QP;cases QP;obtain⟨k,ND⟩:∃k,ks[j]? = some k:=⟨_,vU (by omega)⟩;have RO:m5 kd=some k:=by
   have:=gY ek (i:=j) (by rw[ie em];omega);rw[vF,QF,vF,ND]at this;exact this
  have hm:k∈ks:=vL ND;obtain⟨DN,NE,DT,Oz⟩:=id hst'.1;have J1:Inv X ((It,oI)::(S,seqObj "list" #[ub,zq] c)::ae) σ H s:=qe I;have GQ:∀q∈X.pn++((S,seqObj "list" #[ub,zq] c)::ae),q.1≠It:=qg QL DW;have NF:∀q∈X.pn++((It,DN)::ae),q.1≠S:=qg QK DW.symm;have J2:Inv X ((It,DN)::(S,seqObj "list" #[ub,zq] c)::ae) σ H { s with heap:=h',toks:=Cs } :=
   gB (t':=Cs) J1 I0 GQ (λb o n e=>fG b o (by simpa using n) e) NE (λv z=>by rw[Oz]at z;cases z)
  have J3:Inv X ((S,seqObj "list" #[ub,zq] c)::(It,DN)::ae) σ H { s with heap:=h',toks:=Cs }:=qe J2;show wpAny _ X.A.in1 (tryCatch (holding [u] (call (.ref qa) [u])) _>>=_) _ _ _;refine wX (wpAny_tryCatch (wpAny_holding (wpAny_mono (Lh _ _ H N v u d kd J3 x1.hh x1.bn x1.nh (NC.mono x1.bn) ru QG) (λku s2 he=>?_) λ_ _ hF=>hF.elim)));obtain⟨kv,H2,J4,rk,N2,x2,ik⟩:=he;have RP:=J4.pin (It,DN) (mY _ (mZ _ mX));have QQ:=J4.pin (S,seqObj "list" #[ub,zq] c) (mY _ mX);have Uk:s2.heap.IsListIter It l (j+1):=⟨DN,RP.1,DT,Oz⟩;have t1:=pq J4 rk (ik.mono x2.nh) RO;have t2:=pq J4 r2 (i2.mono (x2.bn.trans x2.nh)) ekb;have hz:(ks.zip ds).drop j=(k,d)::(ks.zip ds).drop (j+1):=by
   have Ox:j<(ks.zip ds).length:=by rw[List.length_zip];omega
   rw[List.drop_eq_getElem_cons Ox];have:(ks.zip ds)[j]? = some (k,d):=List.getElem?_zip_eq_some.mpr ⟨ND,Uj⟩;rw[vU Ox]at this;rw[vK this]
  rw[hz,M.g1]at hd;obtain⟨r,Ul⟩:=M.cg hc mk hm;show wpAny _ X.A.in1 (tryCatch (holding [u,ku] (richCompare op ku zq>>=_)) _>>=_) _ _ _;refine wX (wpAny_tryCatch (wpAny_holding (wX (M.rc t1 t2 Ul hu ?_))));refine wX (wpAny_holding (wpAny_truthy_bool ?_));refine wX (wpAny_letGo (wY ?_));cases r with
  |true=>
   rw[if_pos Ul]at hd;obtain⟨c2,wL⟩:∃c2,(s2.heap.update S (Obj.mapSeq λ_=>#[u,ku])).get? S=some (seqObj "list" #[u,ku] c2):=⟨_,get?_update_seq QQ.1 λ_=>#[u,ku]⟩;have u2:=vW s2.heap S (Obj.mapSeq λ_=>#[u,ku]);simp only[if_true];refine wX ?_;refine wpAny_updateSeq QQ.1 rfl (wX (wpAny_letGo ?_));rw[M.hn];exact wY ⟨plainId_quiet M.pl _,ih (j+1) _ H2 N2 u ku v kv d kd k c2 DN (by omega) fR (gB (t':=s2.toks) J4 S0 NF (λb o n e=>(u2.2 b n).trans e) wL dq) ⟨DN,(u2.2 It DW.symm).trans RP.1,DT,Oz⟩ (x1.trans x2) ru (NC.mono (x1.bn.trans x2.bn)) rk ik RO hm hd⟩
  |false=>
   rw[if_neg (by rw[Ul];simp)]at hd;simp only[uV,if_false];refine wX (wpAny_letGo ?_);rw[M.hn];exact wY ⟨plainId_quiet M.pl _,ih (j+1) _ H2 N2 ub zq vb QN db QO kb c DN (by omega) fR J4 Uk (x1.trans x2) r1 (i1.mono x2.bn) r2 (i2.mono x2.bn) ekb mk hd⟩
end
@[simp] def ME (go:List At×D->List (List At×D)->D)(f:FE)(kf:Env->D->Option D):FE:=λρ=>(f ρ).bind λx=>match x.1 with
 |.lst ds=>(jB (kf ρ) ds).bind λgP=>(dj gP).bind λks=>if di ks=true then match ks.zip ds with
  |[]=>none
  |y::r=>some (go y r,false)
  else none
 |_=>none
@[simp] def tG:=ME mB
@[simp] def tH:=ME ls
section
variable {X:Cx}{e ke:Expr}{p pos kp:Pos}
theorem yp {nm lp:String}{ns:Str}{op:CmpOp}{lt:List At->List At->Option Bool}{go:List At×D->List (List At×D)->D}(M:MM nm lp ns op lt go){f:FE}{kf:Env->D->Option D}{k:Nat}(hm:X.mg ns=none)(he:JE X e f)(hk:JK X X.A.in1 ke kf)(hr:eV k X.A)(hg:Gl X ns:=by rfl)
  (Ub:starEach [e] X.env=[(false,eval e X.env)]:=by rfl) (Uc:backTo pos (starEach [e] X.env)=(false,eval e X.env)::backTo pos (starEach [] X.env):=by rfl) (lz:(backTo pos (starEach [e] X.env)).any (·.1)=false:=by rfl)
  (lf:(backToKw pos (keywordEach [⟨some "key",ke,kp⟩] X.env)).all (·.1.isSome)=true:=by rfl) (Ud:(backToKw pos (keywordEach [⟨some "key",ke,kp⟩] X.env)).any (·.1.isNone)=false:=by rfl)
  (Ue:(backToKw pos (keywordEach [⟨some "key",ke,kp⟩] X.env)).filterMap (·.1)=[("key" : Str)]:=by rfl):
  JE X (.Call (.Name ns p) [e] [⟨some "key",ke,kp⟩] pos) (ME go f kf):=by
 intro ae s σ H Q I h;obtain⟨B,ρ,d,b,sB,rep,ee,q⟩:=h;obtain⟨⟨xd,xb⟩,ex,ee⟩:=oX ee;cases xd<;>try (cases ee;done)
 rename_i ds;obtain⟨gP,em,ee⟩:=oX ee;obtain⟨ks,ek,ee⟩:=oX ee;split at ee
 ·rename_i hc;split at ee
  ·cases ee
  ·rename_i y aD ez;cases ee
   refine wpAny_Call_Name_kw (lB I hg hm M.bt ?_ M.n1 M.n2);refine callWith_kw (cV ((iI he jX Ub) pos ae s σ H (λvs H1=>∃v N,vs=[v]/\Ext B N H H1/\Is X.K N v (.lst ds)) I ⟨B,ρ,_,_,sB,rep,ex,λv H1 N x1 i1 _=>⟨v,N,rfl,x1,i1⟩⟩) λus s1 hA=>?_) Uc lz lf Ud;obtain⟨Yd,H1,I1,r1,v,N,rfl,x1,i1⟩:=hA;obtain⟨u,rfl,ru⟩:=gM r1;refine kws_cons (hk ae s1 σ H1 N ρ _ _ I1 x1.nh (rep.mono x1.bn) λqa H2 s2 I2 m2 Lh=>kws_nil ?_);rw[Ue];show wpAny _ _ (call (.builtin nm) [u] [(("key" : Str),.ref qa)]) _ _ _;cases i1
   rename_i l vs hq il;cases ru
   have sN:aU N H2:=x1.nh.trans m2;obtain⟨its,rv,pl,hz⟩:=I2.list (sN.seq hq);have zk:vs.length=its.length:=rv.length;have Hk:ds.length=vs.length:=il.length.symm;have VJ:gP.length=ds.length:=ie em;have TY:ks.length=gP.length:=fB ek;have QR:l<s2.heap.objs.size:=by
    obtain⟨ol,Ny,_⟩:=pl.isList;exact vX Ny
   -- the first item
   obtain⟨k0,d0⟩:=y;have oM:0<its.length:=by
    have:=congrArg List.length ez;rw[List.length_zip,vE]at this;omega
   have z0:(ks.zip ds)[0]? = some (k0,d0):=by rw[ez];rfl
   obtain⟨RQ,O0⟩:=List.getElem?_zip_eq_some.mp z0;have QS:(ks.zip ds).drop 1=aD:=by rw[ez];rfl
   refine kmk_tree M.k2 M.p2 M.e2 (M.ka _ _) ?_;show wpAny _ X.A.in1 (Builtin.Builtins.bindParams nm ["key","default"] 0 ⟨[],[(Str.ofString "key",.ref qa)]⟩>>=_) _ _ s2;refine wX (wpAny_of_eq (show Builtin.Builtins.bindParams nm ["key","default"] 0 ⟨[],[(Str.ofString "key",.ref qa)]⟩=pure [some (.ref qa),none]from rfl) ?_);refine wX (wY ?_);refine wX (wpAny_pyIter_list pl.isList ?_);refine wX (wpAny_newList ?_ (uN _));rw[M.hn];let It:Addr:=s2.heap.objs.size;let oI:Obj:={ cls:=.type "list_iterator",data:=.fields #[.ref l,.int 0 0] };let S:Addr:=(s2.heap.push oI).objs.size;have hS:S=s2.heap.objs.size+1:=size_push' ..;have DW:S≠It:=by rw[hS];exact Nat.ne_of_gt (Nat.lt_succ_self _)
   have J1:Inv X ((It,oI)::ae) σ H2 { s2 with heap:=s2.heap.push oI }:=pj (t':=s2.toks) I2 (λb u q=>vZ _ q) (vT _) (vY _ rfl) (λv z=>by cases z);have J2:Inv X ((S,seqObj "list" #[] 0)::(It,oI)::ae) σ H2 { s2 with heap:=(s2.heap.push oI).push (seqObj "list" #[] 0) }:=pj (s:={ s2 with heap:=s2.heap.push oI }) (t':=s2.toks) J1 (λb u q=>vZ _ q) (vT _) (vY _ rfl) dq;have I0:X.s₀.heap.objs.size<=It:=I2.sz;have S0:X.s₀.heap.objs.size<=S:=by rw[hS];exact Nat.le_succ_of_le I2.sz
   have QL:∀q∈X.pn++ae,q.1≠It:=λq hq=>vS (vX (I2.pin q hq).1);have QK:∀q∈X.pn++ae,q.1≠S:=λq hq=>by rw[hS];exact vS (Nat.lt_succ_of_lt (vX (I2.pin q hq).1))
   have QM:l≠It:=vS QR;have RN:S≠l:=by rw[hS];exact Nat.ne_of_gt (Nat.lt_succ_of_lt QR)
   have hh:X.A.handled=none:=hr.hd;have hu:X.A.in1.units<cLine:=by have:=hr.un;show X.A.units+1<cLine;omega
   have pS:=J2.pin (S,seqObj "list" #[] 0) (mY _ mX);have pI:=J2.pin (It,oI) (mY _ (mZ _ mX));obtain⟨zi,wF,Yf,_⟩:=J2.list (sN.seq hq);have Li:vs.length=zi.length:=wF.length;have W:=Walks.list (prog:=X.prog) (w:=X.w) (A:=X.A.in1) hh It l QM zi.toArray;have hsz:zi.toArray.size=zi.length:=vH ..;refine wY ⟨plainId_quiet M.pl _,?_⟩;refine codeAny_builtin M.en ?_;rw[Around.under_plainId M.pl _];show wpAny _ X.A.in1 (seqItems? (.ref S)>>=_) _ _ { s2 with heap:=(s2.heap.push oI).push (seqObj "list" #[] 0) };refine wX (wpAny_seqItems pS.1 rfl ?_);show wpAny _ X.A.in1 (tryCatch (pyNext (.ref It)) _>>=_) _ _ _;refine wX (wpAny_tryCatch (W.item 0 _ _ _ (by rw[hsz];omega) ⟨⟨oI,pI.1,rfl,rfl⟩,Yf.isList⟩ λu h' Cs hP hst' fG=>?_));have Hm:zi[0]? = some u:=by simpa using hP
   obtain⟨v,hv,NC⟩:=il.get O0;obtain⟨kd,QF,QG⟩:=m9 em O0;obtain⟨u2,QP,ru⟩:=wF.get hv;rw[Hm]at QP;cases QP;have RO:m5 kd=some k0:=by
    have:=gY ek (i:=0) (by omega);rw[vF,QF,vF,RQ]at this;exact this
   obtain⟨DN,NE,DT,Oz⟩:=id hst'.1;have GQ:∀q∈X.pn++((S,seqObj "list" #[] 0)::ae),q.1≠It:=qg QL DW;have NF:∀q∈X.pn++((It,DN)::ae),q.1≠S:=qg QK DW.symm;have J3:=qe (gB (t':=Cs) (qe J2) I0 GQ (λb o n e=>fG b o (by simpa using n) e) NE (λv z=>by rw[Oz]at z;cases z));show wpAny _ X.A.in1 (tryCatch (holding [u] (call (.ref qa) [u])) _>>=_) _ _ _;refine wX (wpAny_tryCatch (wpAny_holding (wpAny_mono (Lh _ _ H2 N v u d0 kd J3 (.refl _) (.refl _) sN NC ru QG) (λku s3 he=>?_) λ_ _ hF=>hF.elim)));obtain⟨kv,H3,J4,rk,N3,x3,ik⟩:=he;have RP:=J4.pin (It,DN) (mY _ (mZ _ mX));have QQ:=J4.pin (S,seqObj "list" #[] 0) (mY _ mX);obtain⟨c2,wL⟩:∃c2,(s3.heap.update S (Obj.mapSeq λ_=>#[u,ku])).get? S=some (seqObj "list" #[u,ku] c2):=⟨_,get?_update_seq QQ.1 λ_=>#[u,ku]⟩;have u2:=vW s3.heap S (Obj.mapSeq λ_=>#[u,ku]);show wpAny _ X.A.in1 (updateSeq S (λ_=>#[u,ku])>>=_) _ _ _;refine wX ?_;refine wpAny_updateSeq QQ.1 rfl ?_;rw[M.hn];have xx:Ext B N H H2:=x1.trans (.grow x1.nh m2);refine wY ⟨plainId_quiet M.pl _,IH M (S:=S) (It:=It) hh hu Lh ⟨qa,rfl⟩ hq il em ek hc S0 I0 QK QL DW RN QM (λs' H' N' v' u' J' x' r' i'=>⟨v',H',J',r',q _ _ _ (xx.trans x') i' (by simp)⟩) _ 1 _ H3 N3 u ku v kv d0 kd k0 c2 DN rfl (by omega)
    (gB (t':=s3.toks) J4 S0 NF (λb o n e=>(u2.2 b n).trans e) wL dq) ⟨DN,(u2.2 It DW.symm).trans RP.1,DT,Oz⟩ x3 ru (NC.mono x3.bn) rk ik RO (vL RQ) (by rw[QS])⟩
 ·cases ee
end
section
variable {X:Cx}
@[simp] def Lx:D->D->Option (D×Bool)
 |.tup xs,.tup ys=>(cX xs).bind λas=>(cX ys).bind λbs=>(aY as bs).map λr=>(.bl r,false)
 |_,_=>none
@[simp] def Ws:D->D->Option (D×Bool)
 |.tup xs,.tup ys=>(cX xs).bind λas=>(cX ys).bind λbs=>(aY bs as).map λr=>(.bl r,false)
 |_,_=>none
theorem PM (hu:X.A.units+40<cLine):dJ X (compareOp .Lt) (rD X.K Lx):=by
 intro ae s σ H x y v u Q I rx ry q;obtain⟨B,dx,dy,d,b,sB,ix,iy,e,q⟩:=q;cases dx<;>try (simp[Lx]at e;done)
 cases dy<;>try (simp[Lx]at e;done)
 simp only[Lx]at e;obtain⟨as,e1,e⟩:=oX e;obtain⟨bs,e2,e⟩:=oX e;obtain⟨r,e3,e⟩:=oY e;cases e
 show wpAny _ _ (richCompare .Lt v u) _ _ _;exact Fx (pq I rx (ix.mono sB) e1) (pq I ry (iy.mono sB) e2) e3 (by omega) ⟨.bl r,H,I,rfl,q.one sB (.bl r)⟩
end
section
variable {X:Cx}{a b:Expr}{p pos:Pos}
@[simp] def Ry (f g:FE):FA:=λρ=>(f ρ).bind λx=>(g ρ).bind λy=>match x.1,y.1 with
 |.int i,.int j=>if -1000<=i/\i<=1000/\-1000<=j/\j<=1000 then some (fY i (j - i).toNat)else none
 |_,_=>none
end
@[simp] def UO:List D->Option (D×Bool)
 |[.tup xs,.tup ys]=>(cX xs).bind λas=>(cX ys).bind λbs=>(aY as bs).map λr=>(if r=true then .tup ys else .tup xs,false)
 |_=>none
end DL
namespace DL
open PySem PySem.Spec PyProof.Rows L2
section
variable {X:Cx}
noncomputable def qh:D->D->Option (D×Bool)
 |.tup xs,.tup ys=>if xs.isEmpty=true then some (.tup ys,false)else none
 |_,_=>none
theorem II:dJ X (binaryOp .Add) (rD X.K qh):=by
 intro ae s σ H x y v u Q I rx ry q;obtain⟨B,dx,dy,d,bb,sB,ix,iy,ee,q⟩:=q;cases ix<;>cases iy<;>try (simp[qh]at ee;done)
 rename_i l vs ds h hl l' ws es h' DH;simp only[qh]at ee;split at ee
 ·rename_i hz;cases ee
  cases rx
  cases ry
  obtain⟨its,r1,p1,_⟩:=I.tuple (bo sB h);obtain⟨zi,r2,p2,_⟩:=I.tuple (bo sB h');have he:its.toArray.isEmpty=true:=by
   have e1:=hl.length;have e2:=r1.length;have e3:=List.isEmpty_iff.mp hz;rw[e3]at e1;cases its with
   |nil=>rfl
   |cons a b=>rw[e1]at e2;simp at e2
  obtain⟨⟨cls,dd,data,sl⟩,ho,hc,n,hd⟩:=id p1;obtain⟨⟨Tn,Nj,data2,RB⟩,J6,wL,n2,Qj⟩:=id p2;dsimp only at hc hd wL Qj;subst hc;subst hd;subst wL;subst Qj;exact concat_meets ⟨_,ho,rfl⟩ ⟨_,J6,rfl⟩ noFill_tuple_add seq_tuple_add PySem.F.slot_tuple_add PySem.F.entry_tuple_add (PySem.F.args_tuple_add_2 _ _)
   (tuple_addW0 l l' its.toArray zi.toArray n n2 dd Nj sl RB he) ⟨ho,J6,⟨.ref l',H,I,rfl,q.one sB (.tup h' DH)⟩⟩
 ·cases ee
@[simp] noncomputable def Bw:D->D->Option (D×Bool)
 |.tup xs,.tup ys=>if xs.length+ys.length<=sizeLine then some (.tup (xs++ys),false)else none
 |_,_=>none
theorem IJ (xs ys:List D)(z:xs.length+ys.length<=sizeLine):DP pK qh (.tup xs) (.tup ys)=some (.tup (xs++ys),false):=by
 cases xs with
 |nil=>
  have:pK (.tup []) (.tup ys)=none:=if_neg (λh=>by cases h.2);show(match pK (.tup []) (.tup ys) with|some z=>some z|none=>qh (.tup []) (.tup ys))=_;rw[this];rfl
 |cons a l=>
  have:pK (.tup (a::l)) (.tup ys)=some (.tup (a::l++ys),false):=if_pos ⟨z,rfl⟩;show(match pK (.tup (a::l)) (.tup ys) with|some z=>some z|none=>qh (.tup (a::l)) (.tup ys))=_;rw[this]
theorem Fy:dJ X (binaryOp .Add) (rD X.K Bw):=by
 refine iV (r:=rD X.K (DP pK qh)) (nA EN II) λx y H Q q=>?_;obtain⟨B,dx,dy,d,bb,sB,ix,iy,ee,q⟩:=q;refine⟨B,dx,dy,d,bb,sB,ix,iy,?_,q⟩;cases ix<;>try (cases ee;done)
 cases iy<;>try (cases ee;done)
 rename_i l vs ds h hl l' ws es h' DH;simp only[Bw]at ee;split at ee
 ·rename_i hz;rw[IJ _ _ hz];exact ee
 ·cases ee
end
section
variable {X:Cx}
@[simp] def Rz:List D->Option (D×Bool)
 |[d,.tup [.ty n,.ty m]]=>if P7 d=true then none else if n = "list"/\m = "tuple" then some (.bl (kj d == "list" || kj d == "tuple"),false)else none
 |_=>none
end
@[simp] noncomputable def kx:D->Option c8
 |.int i=>some (.inl i)
 |.str x=>some (.inr x)
 |_=>none
theorem tI {K:PySem.W.Frag}{B:Hp}{v:V}{d:D}{k:c8}(i:Is K B v d)(e:kx d=some k):v=kV k:=by
 cases i<;>simp only[kx]at e<;>cases e<;>rfl
noncomputable def cH {κ:Type}[DecidableEq κ]:List κ->List D->κ->Option D
 |k'::ks,d::ds,k=>if k'=k then some d else cH ks ds k
 |_,_,_=>none
theorem wa {κ:Type}[DecidableEq κ]{K:PySem.W.Frag}{B:Hp}(k:κ):∀ {ks:List κ}{vs:List V}{ds:List D},ks.length=vs.length->IsL K B vs ds ->
  (∃v d,jZ (ks.zip vs) k=some v/\cH ks ds k=some d/\Is K B v d)∨(jZ (ks.zip vs) k=none/\cH ks ds k=none)
 |[],vs,ds,_,_=>.inr ⟨by cases vs<;>rfl,by cases ds<;>rfl⟩
 |k'::ks,[],_,h,_=>by simp at h
 |k'::ks,v::vs,_,h,.cons i is=>by
  rw[List.zip_cons_cons];unfold cH;by_cases e:k'=k
  ·rw[if_pos e];exact .inl ⟨v,_,md (p:=(k',v)) e,rfl,i⟩
  ·rw[if_neg e,mf (p:=(k',v)) e];exact wa k (by simpa using h) is
section
variable {X:Cx}{o e i:Expr}{pos:Pos}
@[simp] def Fz:D->D->Option (D×Bool)
 |.dk ks vs,y=>(kx y).map λk=>((cH ks vs k).getD .non,false)
 |_,_=>none
theorem F0 {dC cG:Pos}{fo fe:FE}(hu:X.A.units+1<cLine)(ho:JE X o fo)(he:JE X e fe)(m:M1 X o "get" dC e cG):JE X (.Call (.Attribute o "get" dC) [e] [] cG) (f2 Fz fo fe):=by
 refine PE.to (xh hu ho he m) λσ H Q q=>?_;obtain⟨B,ρ,d,bb,sB,r,ee,q⟩:=q;obtain⟨x,ex,ee⟩:=oX ee;obtain⟨y,ey,ee⟩:=oX ee;refine⟨B,ρ,x.1,x.2,sB,r,ex,λv H1 N1 x1 i1 ff=>?_⟩;obtain⟨xd,xb⟩:=x;cases i1 with
 |@dk a ks vs ds ob h hl hs=>
  simp only[Fz]at ee;obtain⟨k,hk,ee⟩:=oY ee;cases ee
  refine⟨a,rfl,.inl ⟨_,_,.inl (x1.nh _ _ h)⟩,N1,ρ,y.1,y.2,x1.nh,r.mono x1.bn,ey,λv2 H2 N2 x2 i2 _=>?_⟩;have hv:=tI i2 hk;subst hv;refine⟨jZ (ks.zip vs) k,.inl ⟨_,k,_,.inl (x2.nh _ _ (x2.bn _ _ h)),rfl,rfl⟩,?_⟩;have O1:=hs.mono x2.bn;rcases wa k hl O1 with⟨v,d',e1,e2,i3⟩|⟨e1,e2⟩
  ·rw[e1];rw[e2]at q;exact(q.into (x1.trans x2)).one x2.nh i3
  ·rw[e1];rw[e2]at q;exact(q.into (x1.trans x2)).one x2.nh .non
 |_=>simp[Fz]at ee
@[simp] def Zh:D->D->Option (D×Bool)
 |.dk ks vs,y=>(kx y).bind λk=>(cH ks vs k).map λd=>(d,false)
 |_,_=>none
@[simp] def R0:D->D->Option (D×Bool)
 |y,.dk ks vs=>(kx y).map λk=>(.bl (cH ks vs k).isSome,false)
 |_,_=>none
@[simp] def SJ:D->D->Option (D×Bool)
 |y,.dk ks vs=>(kx y).map λk=>(.bl (!(cH ks vs k).isSome),false)
 |_,_=>none
theorem Dh {κ:Type}[DecidableEq κ]{K:PySem.W.Frag}{B:Hp}{k:κ}{ks:List κ}{vs:List V}{ds:List D}(hl:ks.length=vs.length)(hs:IsL K B vs ds):(jZ (ks.zip vs) k).isSome=(cH ks ds k).isSome:=by
 rcases wa k hl hs with⟨v,d,e1,e2,_⟩|⟨e1,e2⟩
 ·rw[e1,e2];rfl
 ·rw[e1,e2];rfl
end
noncomputable def dD {κ:Type}[DecidableEq κ](ks:List κ)(k:κ):List κ:=if k∈ks then ks else ks++[k]
noncomputable def dE {κ α:Type}[DecidableEq κ](ks:List κ)(xs:List α)(k:κ)(x:α):List α:=if k∈ks then List.zipWith (λk' x'=>if k'=k then x else x') ks xs else xs++[x]
theorem By {κ:Type}[DecidableEq κ](k:κ):∀ {ks:List κ}{vs:List V},ks.length=vs.length->((ks.zip vs).any λkv=>decide (kv.1=k))=decide (k∈ks)
 |[],_,_=>by simp
 |k'::ks,[],h=>by simp at h
 |k'::ks,v::vs,h=>by
  have ih:=By k (ks:=ks) (vs:=vs) (by simpa using h);rw[List.zip_cons_cons,List.any_cons,ih];by_cases e:k'=k
  ·simp[e]
  ·have e':¬k=k':=λz=>e z.symm;simp[e,e']
theorem Bz {κ:Type}[DecidableEq κ](k:κ)(v:V):∀(ks:List κ)(vs:List V),(ks.zip vs).map (λkv=>if kv.1=k then (kv.1,v)else kv)=ks.zip (List.zipWith (λk' x'=>if k'=k then v else x') ks vs)
 |[],_=>by simp
 |_::_,[]=>by simp
 |k'::ks,w::vs=>by
  rw[List.zip_cons_cons,uY,Bz k v ks vs,List.zipWith_cons_cons,List.zip_cons_cons];by_cases e:k'=k
  ·simp[e]
  ·simp[e]
theorem pv {κ:Type}[DecidableEq κ]{ks:List κ}{vs:List V}(hl:ks.length=vs.length)(k:κ)(v:V):ma (ks.zip vs) k v=(dD ks k).zip (dE ks vs k v):=by
 unfold ma dD dE;rw[By k hl];by_cases h:k∈ks
 ·rw[if_pos (decide_eq_true h),if_pos h,if_pos h,Bz]
 ·rw[if_neg (by simpa using h),if_neg h,if_neg h,List.zip_append hl];rfl
theorem mC {κ α:Type}[DecidableEq κ]{ks:List κ}{xs:List α}(hl:ks.length=xs.length)(k:κ)(x:α):(dD ks k).length=(dE ks xs k x).length:=by
 unfold dD dE;split<;>simp[hl]
theorem IsL.zipWith {κ:Type}[DecidableEq κ]{K:PySem.W.Frag}{B:Hp}{k:κ}{v:V}{d:D}(i:Is K B v d):∀ {ks:List κ}{vs:List V}{ds:List D},IsL K B vs ds->IsL K B (List.zipWith (λk' x'=>if k'=k then v else x') ks vs) (List.zipWith (λk' x'=>if k'=k then d else x') ks ds)
 |[],_,_,_=>by simpa using IsL.nil
 |_::_,_,_,.nil=>by simpa using IsL.nil
 |k'::ks,_,_,.cons h t=>by
  rw[List.zipWith_cons_cons,List.zipWith_cons_cons];refine .cons ?_ (IsL.zipWith i t);by_cases e:k'=k
  ·rw[if_pos e,if_pos e];exact i
  ·rw[if_neg e,if_neg e];exact h
theorem IsL.put {κ:Type}[DecidableEq κ]{K:PySem.W.Frag}{B:Hp}{k:κ}{v:V}{d:D}(i:Is K B v d){ks:List κ}{vs:List V}{ds:List D}(h:IsL K B vs ds):IsL K B (dE ks vs k v) (dE ks ds k d):=by
 unfold dE;split
 ·exact h.zipWith i
 ·exact h.append (.cons i .nil)
section
variable {K:PySem.W.Frag}{E:Ends}{σ:St}{H:Hp}
noncomputable def B1 (i:Nat):FS:=λρ=>some (.nx (ρ.set i (some (.dk [] [],true))))
noncomputable def F3 (i:Nat):FS:=λρ=>some (.nx (ρ.set i (some (.dt [] [],true))))
theorem eB.newBox (s:eB K B0 H0 N H σ ρ)(i:Nat)(hp:H p=none)(hb:∀C,Bx K C ob dd):eB K B0 H0 (upd N p ob) (upd H p ob) (σ.set i (some (.ref p))) (ρ.set i (some (dd,true))):=by
 have x:=Ext.laid (o:=ob) s.ext.nh hp;have s1:=s.grow x;have VQ:N p=none:=s.ext.nh.free hp;have Yg:¬own σ ρ p:=λz=>by obtain⟨ws,⟨q,_⟩,_⟩:=s.owned z;rw[VQ]at q;cases q
 have c:aU (dL N (own σ ρ)) (dL (upd N p ob) (λb=>own σ ρ b∨b=p)):=eN λb u e q=>⟨x.bn _ _ e,λz=>z.elim q λz=>by subst z;rw[VQ]at e;cases e⟩;refine s1.bindOwn aE (s.ext.hh.free hp) (λj e q z=>Yg ⟨j,e,q,z⟩) (λj e _ q=>?_) (λj e _ q=>?_) (hb _)
 ·obtain⟨w,h1,h2⟩:=s.sh j e q;exact⟨w,h1,h2.mono c⟩
 ·obtain⟨a',o',h1,h2,_,h4⟩:=s.ow j e q;exact⟨a',o',h1,x.bn _ _ h2,h4.mono c⟩
theorem F4 (q:nw K (B1 i) E σ H):wU Es (jM i) E σ H:=by
 obtain⟨B0,H0,ρ,r,⟨N,s⟩,e,p⟩:=q;cases e
 exact λa ob ha=>p _ _ ⟨_,s.newBox i ha λ_=>.dk (ks:=[]) (vs:=[]) rfl .nil⟩
theorem F5 (q:nw K (F3 i) E σ H):wU Et (jM i) E σ H:=by
 obtain⟨B0,H0,ρ,r,⟨N,s⟩,e,p⟩:=q;cases e
 exact λa ha=>p _ _ ⟨_,s.newBox i ha λ_=>.dt (ks:=[]) (vs:=[]) rfl .nil⟩
def yq (i:Nat)(fk fv:FE):FS:=λρ=>match ρ[i]? with
 |some (some (.dk ks vs,true))=>(fv ρ).bind λv=>(fk ρ).bind λk=>(kx k.1).bind λkk=>if bv v.1=true/\ks.length<sizeLine then some (.nx (ρ.set i (some (.dk (dD ks kk) (dE ks vs kk v.1),true))))else none
 |_=>none
theorem F6 {i:Nat}{fk fv:FE}(q:nw K (yq i fk fv) E σ H):AS (DZ i) (tD K fk) (tD K fv) E σ H:=by
 obtain⟨B0,H0,ρ,r,⟨N,s⟩,e,p⟩:=q;unfold yq at e;split at e
 ·rename_i ks ds ei;obtain⟨v,ev,e⟩:=oX e;obtain⟨k,ek,e⟩:=oX e;obtain⟨kk,hk,e⟩:=oX e;split at e
  ·rename_i hx;cases e
   refine⟨N,ρ,v.1,v.2,s.ext.nh,s.rep,ev,λv1 H1 N1 x1 i1 _=>?_⟩;have s1:=s.grow x1;obtain⟨a,o,h1,h2,h3,h4⟩:=s1.ow i _ ei;refine⟨.ref a,h1,N1,ρ,k.1,k.2,s1.ext.nh,s1.rep,ek,λv2 H2 N2 x2 i2 _=>?_⟩;have s2:=s1.grow x2;have hv:=tI i2 hk;subst hv;obtain⟨a',o',k1,k2,k3,k4⟩:=s2.ow i _ ei;rw[h1]at k1;cases k1
   cases k4 with
   |@dk ks vs ds hl h5 ob=>
    refine⟨a,rfl,.inl ⟨_,kk,_,s2.ext.nh _ _ k2,rfl,?_,λTt=>?_⟩⟩
    ·rw[List.length_zip];omega
    ·rw[pv hl];exact p σ _ ⟨_,s2.writeB ei h1 (.dk (mC hl _ _) (h5.put (s2.flat (i1.mono x2.bn) hx.1)))⟩
  ·cases e
 ·cases e
end
section
variable {X:Cx}{pos:Pos}{e k:Expr}
theorem B3 (hN:X.N.Nodup)(hi:X.N[i]? = some x:=by rfl)(hx:GY X.env.scope x:=by first|exact Or.inl rfl|exact Or.inr rfl)(hs:swapsWith (.Dict [] [] dp) (some (.Name x p)) pos.line X.env=pure false:=by rfl)
  (hf:X.fn x=true∨X.env.scope.names.lookup x=some .local:=by first|exact .inl rfl|exact .inr rfl):JS X (.Assign [.Name x p] (.Dict [] [] dp) pos) (B1 i):=PS.to (uu hN hi hx Eu hs hf) λ_ _ _ q=>F4 q
theorem IK (hN:X.N.Nodup)(hi:X.N[i]? = some x:=by rfl)(hx:GY X.env.scope x:=by first|exact Or.inl rfl|exact Or.inr rfl)(hs:swapsWith (.Dict [] [] dp) (some (.Name x p)) pos.line X.env=pure false:=by rfl)
  (hf:X.fn x=true∨X.env.scope.names.lookup x=some .local:=by first|exact .inl rfl|exact .inr rfl):JS X (.Assign [.Name x p] (.Dict [] [] dp) pos) (F3 i):=PS.to (uu hN hi hx Ev hs hf) λ_ _ _ q=>F5 q
theorem IL (hu:X.A.units+1<cLine)(hv:JE X e fv)(hk:JE X k fk)(hN:X.N[i]? = some y:=by rfl)(AH:DY X.env.scope y:=by first|exact Or.inl rfl|exact Or.inr (Or.inl rfl)|exact Or.inr (Or.inr rfl))(hd:(y == ("__debug__" : Str))=false:=by decide)
  (jz:(y == ("__classdict__" : Str))=false:=by decide) (hs:swapsWith e (some (.Subscript (.Name y py) k pt)) pos.line X.env=pure false:=by rfl):JS X (.Assign [.Subscript (.Name y py) k pt] e pos) (yq i fk fv) :=
 PS.to (uC hu (lA hN AH hd jz) hk hv hs) λ_ _ _ q=>F6 q
end
section
variable {prog:Program}{w:World}{A:Around}{E:Value->Shared->Prop}{s:Shared}
abbrev MF (h:Heap)(z TI TO T0:Addr)(f:Bool):Prop:=h.get? z=some { cls:=.type "zip",dict:=none,data:=.fields #[rawInt T0,.bool f,.bool false,.ref TI,.ref TO],slots:=#[] }
end
def UP (k1 k2:Bool)(z TI TO i1 i2 l1 l2 S:Addr)(i:Nat)(h:Heap):Prop :=
 IsPair h TI (.ref i1) (.ref i2)/\Bh k1 h i1 l1 i/\Bh k2 h i2 l2 i/\((IsZip h z TI TO .none/\∃a b,IsPair h TO a b)∨∃T0 f oT oO,MF h z TI TO T0 f/\h.get? T0=some oT/\T0∉[z,TI,TO,i1,i2]/\T0≠S/\h.get? TO=some oO)
section
variable {prog:Program}{w:World}{A:Around}{E:Value->Shared->Prop}{s:Shared}{k1 k2:Bool}{z TI TO i1 i2 l1 l2 S:Addr}{j:Nat}{xs ys:Array Value}
theorem UP.ty (st:UP k1 k2 z TI TO i1 i2 l1 l2 S j h):∃o,h.get? z=some o/\o.cls=.type "zip":=by
 obtain⟨_,_,_,a4⟩:=st;rcases a4 with⟨b1,_⟩|⟨T0,f,oT,oO,b1,_⟩
 ·exact⟨_,b1,rfl⟩
 ·exact⟨_,b1,rfl⟩
end
theorem qi (h:H a=none):aU H (upd H a o):=λb u e=>by rw[aI (aX e h)];exact e
@[simp] def Zi (fa fb:FE):FE:=λρ=>(SA fa fb ρ).map λds=>(.lst ds,true)
end DL
namespace DL
open PySem PySem.Spec PyProof.Rows
theorem wb:typeLookup (.type "list") "keys" = pure none:=by rw[typeLookup_type,builtinLookup_eq_fast];kernel_rfl
theorem Di 
  (hx:s.heap.get? a=some { cls:=.type "list",dict:=none,data:=.seq xs k,slots:=sl }) (hA:A.handled=none)
  (h:∀h' tk,(∀b o,s.heap.get? b=some o->h'.get? b=some o)->Q none { s with heap:=h',toks:=tk }):
  wpAny (model prog w) A (getAttr? (.ref a) "keys") Q E s:=by
 obtain⟨hp,g,d,tk,os⟩:=s;have hT:∀Cs,(⟨hp,g,d,Cs,os⟩:Shared).TypeIs (.ref a) "list":=λ_=>⟨_,hx,rfl⟩;have f1:=sub_AttributeError;have f3:=PySem.F.slot_list_getattribute.lookup;have f4:=PySem.F.slot_list_getattribute.bind (.ref a);have f5:=am_list_getattr_none;unfold getAttr? getAttrBy? getAttrBy;repeat (any_goals (first|assumption|exact hT _|((with_reducible show wpAny _ _ (call (Value.builtin "list.__getattribute__") _ _) _ _ _);refine call_meets PySem.F.slot_list_getattribute (hT _) am_entry_list_getattribute (PySem.F.args_list_getattribute_2 _ _) (meets_getattribute_miss_list a xs k sl "keys" _ wb (by decide) (by decide)) ⟨hx,hA,λh' Cs e hx'=>?_⟩)|wp_step))
 obtain⟨t',u',he⟩:=hx'.there;show wpAny _ _ (getattributeRaised _ _ _ _ _ _ _) _ _ _;unfold getattributeRaised;repeat (any_goals (first|assumption|wp_step))
 exact h _ _ hx'.of.keeps
end DL
namespace DL
open PySem PySem.Spec PyProof.Rows L2
def iX:List D->Option (List (c8×D))
 |[]=>some []
 |.tup [k,v]::r=>(kx k).bind λkk=>(iX r).map λl=>(kk,v)::l
 |_=>none
noncomputable def qj (a:List c8×List D)(p:c8×D):List c8×List D:=(dD a.1 p.1,dE a.1 a.2 p.1 p.2)
noncomputable def bU (l:List (c8×D)):List c8×List D:=l.foldl qj ([],[])
theorem qk (l:List (c8×D))(p:c8×D):bU (l++[p])=qj (bU l) p:=by unfold bU;rw[List.foldl_append];rfl
theorem ql:∀ {ds:List D}{l:List (c8×D)},iX ds=some l->l.length=ds.length
 |[],l,h=>by simp[iX]at h;subst h;rfl
 |d::r,l,h=>by
  unfold iX at h;split at h
  ·rename_i h0;cases h0
  ·rename_i k v r' h0;cases h0
   obtain⟨kk,_,h⟩:=oX h;obtain⟨l',h1,rfl⟩:=oY h;simp[ql h1]
  ·cases h
theorem qm:∀ {ds:List D}{l:List (c8×D)}{i:Nat}{d:D},iX ds=some l->ds[i]? = some d->∃k v kk,d=.tup [k,v]/\kx k=some kk/\l[i]? = some (kk,v)
 |[],l,i,d,_,h=>by simp at h
 |d0::r,l,i,d,h,hi=>by
  unfold iX at h;split at h
  ·rename_i h0;cases h0
  ·rename_i k v r' h0;cases h0
   obtain⟨kk,h2,h⟩:=oX h;obtain⟨l',h1,rfl⟩:=oY h;cases i with
   |zero=>simp at hi;subst hi;exact⟨k,v,kk,rfl,h2,rfl⟩
   |succ i=>simp only[List.getElem?_cons_succ]at hi ⊢;exact qm h1 hi
  ·cases h
theorem F7 (l:List (c8×D)):∀a:List c8×List D,a.1.length=a.2.length->(l.foldl qj a).1.length=(l.foldl qj a).2.length/\(l.foldl qj a).1.length<=a.1.length+l.length:=by
 induction l with
 |nil=>intro a h;exact⟨h,vT _⟩
 |cons p l ih=>
  intro a h;have h1:(qj a p).1.length<=a.1.length+1:=by
   show(dD _ _).length<=_;unfold dD;split<;>simp
  have:=ih (qj a p) (mC h _ _);rw[List.foldl_cons,vE];exact⟨this.1,by omega⟩
theorem Dj (l:List (c8×D)):(bU l).1.length=(bU l).2.length/\(bU l).1.length<=l.length:=by
 have:=F7 l ([],[]) rfl;exact⟨this.1,vR this.2 (by simp)⟩
theorem tJ:entryFor table "dict.update.loop" = some Builtin.«dict.update.loop»:=entryFor_of_tree (by kernel_rfl)
theorem kU:plainId "dict.update.loop" = true:=by decide +kernel
section
variable {X:Cx}{ae:List (Addr×Obj)}{σ:St}{B H0:Hp}{A:Around}{R:Result->Shared->Prop}{it l d:Addr}{us:List V}{ds:List D}{gP:List (c8×D)}
theorem Ar (hA:A.handled=none)(nl:l≠it)(nd:d≠it)(hl:iF X.K B l us)(il:IsL X.K B us ds)(hp:iX ds=some gP)
  (hR:∀Hc N vs ob s',Inv X ae σ (upd Hc d (.dK ((bU gP).1.zip vs) ob)) s'->Hc d=none->Ext B N H0 Hc->(bU gP).1.length=vs.length->IsL X.K N vs (bU gP).2->R (.ok (.ret .none)) s'):
  ∀(k i:Nat)(tk:Nat)(s:Shared)(Hc N:Hp)(vs:List V)(ob:Obj),ds.length - i=k->i<=ds.length->Inv X ae σ (upd Hc d (.dK ((bU (gP.take i)).1.zip vs) ob)) s->Hc d=none->Ext B N H0 Hc->np X ae (upd Hc d (.dK ((bU (gP.take i)).1.zip vs) ob)) it ->
   s.heap.IsListIter it l i->(bU (gP.take i)).1.length=vs.length->IsL X.K N vs (bU (gP.take i)).2 ->
   codeAny (model X.prog X.w) A (.builtin "dict.update.loop" ⟨[.ref d,.ref it,.int i tk,.none],[]⟩) R s:=by
 have n1:=il.length;have n2:=ql hp;intro k;induction k with
 |zero=>
  intro i tk s Hc N vs ob hk hi I hc xt fp st hz hv;have DV:i=ds.length:=by omega
  have sm:aU B (upd Hc d (.dK ((bU (gP.take i)).1.zip vs) ob)):=(xt.bn.trans xt.nh).trans (qi hc);obtain⟨its,r1,p1,z1⟩:=I.list (sm.seq hl);have e1:=r1.length;refine codeAny_builtin tJ ?_;rw[Around.under_plainId kU _];show wpAny _ A.in1 (pyNext (.ref it)>>=_) _ _ s;refine wX (wpAny_pyNext_list_end (A:=A.in1) hA st p1.isList (by simp;omega) λh' fG=>?_);show wpAny _ _ (Builtin.Dict.addKeywords d []>>=_) _ _ _;refine wX (wY (wY ?_));have I1:=pi (t':=s.toks) (h':=h') (ch:=[it]) I (λb hb=>by rw[uT hb];exact fp) λb o hb e=>fG b o (λq=>hb (by simp[q])) e;rw[DV,←n2,List.take_length]at I1 hz hv;exact hR Hc N vs ob _ I1 hc xt hz hv
 |succ k ih=>
  intro i tk s Hc N vs ob hk hi I hc xt fp st hz hv;have fR:i<ds.length:=by omega
  have sm:aU B (upd Hc d (.dK ((bU (gP.take i)).1.zip vs) ob)):=(xt.bn.trans xt.nh).trans (qi hc);obtain⟨its,r1,p1,z1⟩:=I.list (sm.seq hl);obtain⟨kd,vd,kk,ed,ek,el⟩:=qm hp (vU fR);obtain⟨x,hx,ix⟩:=il.get (vU fR);rw[ed]at ix;cases ix with
  |@tup T xs _ hT hxs=>
   cases hxs with
   |cons ik r=>
    cases r with
    |cons iv r=>
     cases r
     rename_i xk xv;have Yh:=tI ik ek;subst Yh;obtain⟨u,hu,ru⟩:=r1.get hx;cases (show u=Value.ref T from ru)
     refine codeAny_builtin tJ ?_;rw[Around.under_plainId kU _];show wpAny _ A.in1 (pyNext (.ref it)>>=_) _ _ s;refine wX (wpAny_pyNext_list_item (A:=A.in1) st p1.isList (x:=.ref T) (by simpa using hu) λh' jS hs=>?_);have I1:=pi (t':=s.toks) (h':=h') (ch:=[it]) I (λb hb=>by rw[uT hb];exact fp) λb o hb e=>hs.extBut b o (λq=>hb (by simp[q])) e;obtain⟨ps,r2,p2,z2⟩:=I1.tuple (bo sm hT);obtain⟨uk,uv,rfl,rk,rv⟩:=r2.two;have Yi:Shared.TypeIs { s with heap:=h' } (.ref T) "tuple":=by obtain⟨o,e,c,_⟩:=p2;exact⟨o,e,c⟩
     dsimp only;refine wX (wpAny_holding (wX (wpAny_tryCatch ?_)));unfold Builtin.Dict.pairItems;refine wX (wpAny_typeOf Yi ?_);obtain⟨oT,eT,cT,nT,dT⟩:=p2;rw[if_pos (by decide)];refine wX (wpAny_seqItems eT dT (wY ?_));show wpAny _ _ (holding [uk,uv] (dictSet d uk uv)) _ _ _;obtain⟨zz,TR,Yj,wN,dd⟩:=pA I1.hok (a:=d) aE;have Yk:Yj.length<=sizeLine:=by rw[←wN.length];exact zz
     have nk:((bU (gP.take i)).1.zip vs).length<sizeLine:=by
      have a1:=(Dj (gP.take i)).2;have a2:=z1;rw[List.length_take]at a1;rw[List.length_zip];omega
     refine wpAny_holding (wpAny_dictSet_pairs (hsz:=Yk) (xf rk) dd λh2 Nj O1=>?_);have AI:(ma ((bU (gP.take i)).1.zip vs) kk xv).length<=sizeLine:=by have:=kg ((bU (gP.take i)).1.zip vs) kk xv;omega
     obtain⟨VR,Op⟩:∃q,h2.get? d=some q:=let ⟨q,_,_,hq,_⟩:=Nj;⟨q,hq⟩;have I2:=uB (t':=s.toks+1) I1 (a:=d) (ob:=.dK (ma ((bU (gP.take i)).1.zip vs) kk xv) VR) (by rw[aE];exact True.intro) O1 ⟨_,Op⟩ (Ep AI TR (wN.put kk rv) Nj Op);rw[Hn,pv hz]at I2;have et:gP.take (i+1)=gP.take i++[(kk,vd)]:=by rw[List.take_add_one,el];rfl
     have VS:(bU (gP.take (i+1))).1=dD (bU (gP.take i)).1 kk:=by rw[et,qk];rfl
     have Yl:(bU (gP.take (i+1))).2=dE (bU (gP.take i)).1 (bU (gP.take i)).2 kk vd:=by rw[et,qk];rfl
     refine wY ⟨plainId_quiet kU _,?_⟩;refine ih (i+1) 0 _ Hc N (dE (bU (gP.take i)).1 vs kk xv) VR (by omega) fR (by rw[VS];exact I2) hc xt ?_ ?_ ?_ ?_
     ·obtain⟨f0,f1⟩:=fp;refine⟨?_,f1⟩;rw[aI nd.symm]at f0 ⊢;exact f0
     ·exact jS.at λo e=>(O1.2 it nd.symm).trans e
     ·rw[VS];exact mC hz _ _
     ·rw[Yl];exact hv.put (iv.mono xt.bn)
end
@[simp] def jC:List D->Option (D×Bool)
 |[.lst ds]=>(iX ds).map λgP=>(.dk (bU gP).1 (bU gP).2,false)
 |_=>none
theorem MG:bootBuiltins "dict" = some (.type "dict"):=by decide +kernel
section
variable {X:Cx}
theorem MH (Um:X.calm=true):bP X (.type "dict") (zM X.K jC):=by
 intro ae s σ H xs us Q I r h;obtain⟨B,Zt,d0,bb,sB,i0,ee,q⟩:=h;cases i0 with
 |nil=>simp[jC]at ee
 |cons i1 i2=>
  cases i2 with
  |cons _ _=>cases i1<;>simp[jC]at ee
  |nil=>
   cases i1<;>try (simp[jC]at ee;done)
   rename_i l ws ds hl il;simp only[jC]at ee;obtain⟨gP,hp,ee⟩:=oY ee;cases ee
   obtain⟨u,rfl,rx⟩:=gM r;cases rx
   have hA:X.A.handled=none:=I.ok.hd Um;refine callType_codes (Q₁:=λobj s₁=>obj=.ref s.heap.objs.size/\s₁={ s with heap:=s.heap.push { cls:=.type "dict",data:=.dict #[] } }) PySem.F.kt_called_dict (PySem.F.kt_typeCall_dict_1 _) PySem.F.entry_dict_init (kt_code_dict_new _ ⟨rfl,rfl⟩) ?_;rintro obj s₁ ⟨rfl,rfl⟩;have I1:Inv X ae σ (upd H s.heap.objs.size (.dK [] { cls:=.type "dict",data:=.dict #[] })) { s with heap:=s.heap.push { cls:=.type "dict",data:=.dict #[] } }:=I.laid (t':=s.toks) (λb o e=>vZ _ e) (vT _) (xg s.heap I.big);have VT:H s.heap.objs.size=none:=I.fresh;have hT:Shared.TypeIs { s with heap:=s.heap.push { cls:=.type "dict",data:=.dict #[] } } (.ref s.heap.objs.size) "dict":=⟨_,vY _ rfl,rfl⟩;refine⟨hT,PySem.F.args_dict_init_2 _ _,?_⟩;unfold Builtin.«dict.__init__»;refine wX ?_;unfold Builtin.Dict.selfAndRest;refine wX (wpAny_notOrdered_dict hT ?_);show wpAny _ _ (pure (s.heap.objs.size,[Value.ref l])) _ _ _;refine wY ?_;show wpAny _ _ (Builtin.Dict.updateFrom "dict.__init__" s.heap.objs.size (.ref l) [] .none) _ _ _;unfold Builtin.Dict.updateFrom;have sm:aU B (upd H s.heap.objs.size (.dK [] { cls:=.type "dict",data:=.dict #[] })):=sB.trans (qi VT);obtain⟨its,r1,p1,z1⟩:=I1.list (sm.seq hl);have pl:=p1.isList;obtain⟨ol,nl,RS,cl,VU,dl⟩:=p1;have Ym:Shared.TypeIs { s with heap:=s.heap.push { cls:=.type "dict",data:=.dict #[] } } (.ref l) "list":=⟨ol,RS,cl⟩;refine wX (wpAny_typeOf Ym ?_);rw[if_pos (by decide)];obtain⟨oc,od,oo,os⟩:=ol;simp only at cl VU dl;subst cl VU dl;refine wX (Di RS (by exact hA) λh' tk hk=>?_);dsimp only[Option.isNone_none];rw[if_pos rfl];have I2:Inv X ae σ (upd H s.heap.objs.size (.dK [] { cls:=.type "dict",data:=.dict #[] })) { s with heap:=h',toks:=tk }:=I1.kept (t':=tk) hk;refine wX (wpAny_rule ?_);refine wX (wpAny_pyIter_list (items:=its.toArray) ⟨_,hk _ _ RS,rfl,nl,rfl⟩ ?_);have I3:Inv X ae σ (upd H s.heap.objs.size (.dK [] { cls:=.type "dict",data:=.dict #[] })) { s with heap:=h'.push { cls:=.type "list_iterator",data:=.fields #[.ref l,.int 0 0] },toks:=tk }:=I2.kept (t':=tk) λb o e=>vZ _ e;have ld:s.heap.objs.size<h'.objs.size:=vX (hk _ _ (vY _ rfl));have ll:l<h'.objs.size:=vX (hk _ _ RS);refine wY ⟨plainId_quiet kU _,Ar (A:=X.A.in1) (B:=B) (H0:=H) (l:=l) (d:=s.heap.objs.size) (it:=h'.objs.size) hA (vS ll) (vS ld) hl il hp (λHc N vs ob s' I' Jx xt hz hv=>?_) _ 0 0 _ H B [] _ rfl (uN _) I3 VT (Ext.refl sB) (I2.fpOk (vT _) (I2.hok.fresh (vT _))) ⟨_,vY _ rfl,rfl,rfl⟩ rfl .nil⟩;refine⟨rfl,.ref s.heap.objs.size,_,I',rfl,?_⟩;have x3:=xt.trans (Ext.laid (o:=.dK ((bU gP).1.zip vs) ob) xt.nh Jx);exact q _ _ _ x3 (.dk aE hz (hv.mono (Ext.laid (o:=.dK ((bU gP).1.zip vs) ob) xt.nh Jx).bn)) (by simp)
end
@[simp] noncomputable def UQ:FE:=λ_=>none
@[simp] noncomputable def UR:FA:=λ_=>none
theorem Oa (h:n+40<cLine):n+1<cLine:=by omega
@[simp] noncomputable def MI:D->D->Option (D×Bool)
 |.lst ds,.int k=>if 0<=k/\ds.length*k.toNat<=1000/\k<=1000 then some (.lst (List.replicate k.toNat ds).flatten,true)else none
 |_,_=>none
@[simp] def Dk (fa fb:FE):FE:=λρ=>(fa ρ).bind λx=>if x.2=true then (fb ρ).bind λy=>MI x.1 y.1 else none
theorem IsL.rep {K:PySem.W.Frag}{H:Hp}{vs:List V}{ds:List D}(h:IsL K H vs ds):∀k:Nat,IsL K H (List.replicate k vs).flatten (List.replicate k ds).flatten
 |0=>.nil
 |k+1=>by rw[List.replicate_succ,List.replicate_succ,List.flatten_cons,List.flatten_cons];exact h.append (IsL.rep h k)
section
variable {X:Cx}{a b:Expr}{pos:Pos}
theorem F8 {fa fb:FE}(ha:JE X a fa)(hb:JE X b fb):JE X (.BinOp a .Mult b pos) (Dk fa fb):=by
 refine PE.to (JY LU ha hb) λσ H Q q=>?_;obtain⟨B,ρ,d,bb,sB,r,ee,q⟩:=q;obtain⟨x,ex,ee⟩:=oX ee;split at ee
 ·rename_i hx;obtain⟨⟨yd,yb⟩,ey,ee⟩:=oX ee;refine⟨B,ρ,x.1,x.2,sB,r,ex,λv H1 N1 x1 i1 fr=>⟨N1,ρ,yd,yb,x1.nh,r.mono x1.bn,ey,λu H2 N2 x2 i2 Q6=>?_⟩⟩;obtain⟨a0,vs,ds,rfl,e1,h0,h1,il⟩:=fr hx;rw[e1]at ee;clear Q6;cases i2<;>try (simp[MI]at ee;done)
  rename_i k;simp only[MI]at ee;split at ee
  ·rename_i hk;cases ee
   have hl:=il.length;refine⟨a0,k,vs,rfl,rfl,x2.nh _ _ (x2.bn _ _ h1),by omega,by omega,by rw[hl];exact vR hk.2.1 (by decide:(1000:Nat)<=sizeLine),λp hp=>?_⟩;have x3:=Ext.laid (o:=.lst (List.replicate k.toNat vs).flatten) x2.nh hp;have VV:=((il.mono x2.bn).mono x3.bn).rep k.toNat;exact q _ _ _ ((x1.trans x2).trans x3) (.lst (iF.of aE) VV) λ_=>⟨_,_,_,rfl,rfl,(x1.trans x2).hh.free hp,aE,VV⟩
  ·cases ee
 ·cases ee
end
def iK:List D->Option (List c8)
 |[]=>some []
 |d::ds=>(kx d).bind λk=>(iK ds).map (k :: ·)
theorem As {K:PySem.W.Frag}{B:Hp}:∀ {vs:List V}{ds:List D}{ks:List c8},IsL K B vs ds->iK ds=some ks->vs=ks.map kV
 |_,_,ks,.nil,e=>by simp[iK]at e;subst e;rfl
 |_,_,ks,.cons i is,e=>by
  simp only[iK]at e;obtain⟨k,h1,e⟩:=oX e;obtain⟨r,h2,rfl⟩:=oY e;rw[tI i h1,As is h2];rfl
@[simp] def F9 (fo:FE)(fa:FA):FE:=λρ=>(fo ρ).bind λx=>(fa ρ).bind λds=>match x.1 with
 |.dt kss vs=>if ds.length<=sizeLine then (iK ds).map λk=>((cH kss vs k).getD .non,false)else none
 |_=>none
section
variable {X:Cx}{o:Expr}{es:List Expr}{pos:Pos}
theorem FC {dC cG DC:Pos}{x1:Nat}{fo:FE}{fa:FA}(hu:X.A.units+1<cLine)(ho:JE X o fo)(ha:JA X es fa)(m:M1 X o "get" dC (.Tuple es x1 DC) cG):JE X (.Call (.Attribute o "get" dC) [.Tuple es x1 DC] [] cG) (F9 fo fa):=by
 refine PE.to (xh hu ho (zC ha) m) λσ H Q q=>?_;obtain⟨B,ρ,d,bb,sB,r,ee,q⟩:=q;obtain⟨x,ex,ee⟩:=oX ee;obtain⟨ds,ey,ee⟩:=oX ee;refine⟨B,ρ,x.1,x.2,sB,r,ex,λv H1 N1 x1 i1 ff=>?_⟩;obtain⟨xd,xb⟩:=x;cases i1 with
 |@dt a ks vs DD h hl hs=>
  simp only at ee;split at ee
  ·rename_i hz;obtain⟨k,hk,ee⟩:=oY ee;cases ee
   refine⟨a,rfl,.inr ⟨_,.inl (x1.nh _ _ h)⟩,N1,ρ,ds,x1.nh,r.mono x1.bn,ey,λus H2 N2 x2 i2=>?_⟩;have hv:=As i2 hk;have Yn:us.length<=sizeLine:=by rw[i2.length];exact hz
   refine⟨Yn,λp hp=>?_⟩;have x3:=Ext.laid (o:=.tup us) x2.nh hp;have Yo:N2 a=some (.dT (ks.zip vs)):=x2.bn _ _ h;refine⟨jZ (ks.zip vs) k,.inr ⟨_,k,p,.inl (x3.nh _ _ (x3.bn _ _ Yo)),rfl,by rw[aE,hv],rfl⟩,?_⟩;have O1:=(hs.mono x2.bn).mono x3.bn;rcases wa k hl O1 with⟨v,d',e1,e2,i3⟩|⟨e1,e2⟩
   ·rw[e1];rw[e2]at q;exact(q.into ((x1.trans x2).trans x3)).one x3.nh i3
   ·rw[e1];rw[e2]at q;exact(q.into ((x1.trans x2).trans x3)).one x3.nh .non
  ·cases ee
 |_=>simp at ee
end
section
variable {K:PySem.W.Frag}{E:Ends}{σ:St}{H:Hp}
def tK (i:Nat)(fk:FA)(fv:FE):FS:=λρ=>match ρ[i]? with
 |some (some (.dt ks vs,true))=>(fv ρ).bind λv=>(fk ρ).bind λkd=>(iK kd).bind λkk=>if bv v.1=true/\ks.length<sizeLine/\kd.length<=sizeLine then some (.nx (ρ.set i (some (.dt (dD ks kk) (dE ks vs kk v.1),true))))else none
 |_=>none
theorem FD {i:Nat}{fk:FA}{fv:FE}(q:nw K (tK i fk fv) E σ H):AS (DZ i) (Pb (NS K fk)) (tD K fv) E σ H:=by
 obtain⟨B0,H0,ρ,r,⟨N,s⟩,e,p⟩:=q;unfold tK at e;split at e
 ·rename_i ks ds ei;obtain⟨v,ev,e⟩:=oX e;obtain⟨kd,ek,e⟩:=oX e;obtain⟨kk,hk,e⟩:=oX e;split at e
  ·rename_i hx;cases e
   refine⟨N,ρ,v.1,v.2,s.ext.nh,s.rep,ev,λv1 H1 N1 x1 i1 _=>?_⟩;have s1:=s.grow x1;obtain⟨a,o,h1,h2,h3,h4⟩:=s1.ow i _ ei;refine⟨.ref a,h1,N1,ρ,kd,s1.ext.nh,s1.rep,ek,λus H2 N2 x2 i2=>?_⟩;have s2:=s1.grow x2;have hv:=As i2 hk;refine⟨by rw[i2.length];exact hx.2.2,λpp hp=>?_⟩;have x3:=Ext.laid (o:=.tup us) s2.ext.nh hp;have s3:=s2.grow x3;obtain⟨a',o',k1,k2,k3,k4⟩:=s3.ow i _ ei;rw[h1]at k1;cases k1
   cases k4 with
   |@dt ks vs ds hl h5=>
    refine⟨a,rfl,.inr ⟨_,kk,pp,s3.ext.nh _ _ k2,rfl,by rw[aE,hv],?_,?_⟩⟩
    ·rw[List.length_zip];omega
    ·rw[pv hl];exact p σ _ ⟨_,s3.writeB ei h1 (.dt (mC hl _ _) (h5.put (s3.flat ((i1.mono x2.bn).mono x3.bn) hx.1)))⟩
  ·cases e
 ·cases e
end
section
variable {X:Cx}{pos:Pos}{e:Expr}{es:List Expr}
theorem IM (hu:X.A.units+1<cLine)(hv:JE X e fv)(hk:JA X es fk)(hN:X.N[i]? = some y:=by rfl)(AH:DY X.env.scope y:=by first|exact Or.inl rfl|exact Or.inr (Or.inl rfl)|exact Or.inr (Or.inr rfl))(hd:(y == ("__debug__" : Str))=false:=by decide)
  (jz:(y == ("__classdict__" : Str))=false:=by decide) (hs:swapsWith e (some (.Subscript (.Name y py) (.Tuple es x1 DC) pt)) pos.line X.env=pure false:=by rfl):JS X (.Assign [.Subscript (.Name y py) (.Tuple es x1 DC) pt] e pos) (tK i fk fv) :=
 PS.to (uC hu (lA hN AH hd jz) (zC hk) hv hs) λ_ _ _ q=>FD q
end
end DL
namespace DL
open PySem PySem.Spec PySem.W PyProof.Rows L2
section
variable {X:Cx}{a b c:Expr}{p pos:Pos}
noncomputable def MJ (lo c:Int)(n:Nat):List D:=(List.range n).map λ(k:Nat)=>.int (lo+(k:Int)*c)
@[simp] def R1 (f g h:FE):FA:=λρ=>(f ρ).bind λx=>(g ρ).bind λy=>(h ρ).bind λz=>match x.1,y.1,z.1 with
 |.int i,.int j,.int c=>if(-1000<=i/\i<=1000/\-1000<=j/\j<=1000)/\(c=1∨c=2∨c=3)then some (MJ i c (Builtin.Range.rangeSize i j c).toNat)else none
 |_,_,_=>none
end
end DL
namespace L2
open PySem PySem.Spec PyProof.Rows
noncomputable def SK (a:Addr)(aL:List (c8×V))(ob:Obj):It:=⟨λi H=>H a=some (.dK aL ob)/\i<aL.length,λi H x H'=>H'=H/\∃k,aL[i]? = some (k,x),λi H=>H a=some (.dK aL ob)/\aL.length<=i⟩
theorem KV.get {aL:List (c8×V)}{vs:List (c8×Value)}(r:KV aL vs){i:Nat}{k:c8}{x:V}(h:aL[i]? = some (k,x)):∃u,vs[i]? = some (k,u)/\ba x u:=by
 unfold KV at r;induction r generalizing i with
 |nil=>simp at h
 |@cons p q ps qs hq t ih=>
  cases i with
  |zero=>
   cases (show p=(k,x)from vK h)
   obtain⟨q1,q2⟩:=q;exact⟨q2,by rw[show k=q1 from hq.1];rfl,hq.2⟩
  |succ i=>exact ih h
theorem PN (h:(cm P w).is k u=true):ba (kV k) u:=by
 cases k with
 |inl i=>exact Value.isInt_shape h
 |inr z=>exact Value.isStrOf_shape h
section
variable {P:Program}{w:World}{H:Hp}{h:Heap}{a:Addr}
theorem qo (ok:lb P w H h)(e:H a=some (.dK aL ob))(hd:ob.data=.dict es ep):∃vs,KV aL vs/\h.DictAt (cm P w) a vs ep:=by
 obtain⟨_,_,vs,r,o,DR,Oh,h1,h2,h3,h4⟩:=pA ok e;rw[zL ok e]at h1;cases h1
 rw[hd]at h3;cases h3
 exact⟨vs,r,ob,es,zL ok e,h2,hd,h4⟩
theorem wc (ok:lb P w H h)(e:H a=some (.dK aL ob)):∃es ep,ob.data=.dict es ep:=by
 obtain⟨_,_,vs,r,o,DR,Oh,h1,h2,h3,h4⟩:=pA ok e;rw[zL ok e]at h1;cases h1
 exact⟨DR,Oh,h3⟩
end
theorem Dl {P:Program}{w:World}{K:PySem.W.Frag}{tg:Expr}(a it:Addr)(aL:List (c8×V))(ob:Obj){es:Array DictEntry}{ep:Nat}(hd:ob.data=.dict es ep):Turn P w K tg (SK a aL ob) [it] it (λi h=>h.IsValIter it a i aL.length ep) where
 mem:=by simp
 obj:=λi h st b hb=>by
  have e:b=it:=by simpa using hb
  subst e;obtain⟨o,e,c,d⟩:=st;exact⟨o,e,λv z=>by rw[d]at z;cases z⟩
 keep:=λi h h' st k=>st.at λo e=>k it (by simp) o e
 item:=by
  intro X hP hw hK hc i ae s σ H E I hf st hg;subst hP hw hK;obtain⟨hH,fR⟩:=hg;obtain⟨vs,r,m⟩:=qo I.hok hH hd;obtain⟨f0,f1,f2,f3,f4,f5⟩:=hf it (by simp);have hl:vs.length=aL.length:=(Paired.length r).symm;obtain⟨u,hu,ru⟩:=r.get (k:=aL[i].1) (x:=aL[i].2) (vU fR);refine wpAny_pyNext_values_item (by rw[hl];exact st) m hu λh' jS sb=>?_;rw[hl]at jS;have I1:Inv X ae σ H { s with heap:=h' }:=I.turned (t':=s.toks) (λb o hb e=>(sb.2 b hb).trans e) f0 f1 f3 f4 f5;obtain⟨o,e,c,d⟩:=id jS;exact⟨u,rfl,sC (s:={ s with heap:=h' }) e c d (by decide) ⟨aL[i].2,H,I1,ru,⟨rfl,aL[i].1,vU fR⟩,jS,λb hb=>(hf b hb).1⟩⟩
 done:=by
  intro X hP hw hK hc i ae s σ H E I hf st hg;subst hP hw hK;obtain⟨hH,JH⟩:=hg;obtain⟨vs,r,m⟩:=qo I.hok hH hd;obtain⟨f0,f1,f2,f3,f4,f5⟩:=hf it (by simp);have hl:vs.length=aL.length:=(Paired.length r).symm;exact wpAny_pyNext_values_end (I.ok.hd hc) (by rw[hl];exact st) m (List.getElem?_eq_none (by omega)) λh' eb=>⟨rfl,I.turned (t':=s.toks) (λb o hb e=>eb b o hb e) f0 f1 f3 f4 f5⟩
 self:=λ_ _ _ _ _ st h=>wpAny_pyIter_valiter st h
section
variable {X:Cx}{tg:Expr}
def PP (td:TE):TI:=λσ H R=>td σ H λx H1=>∃a aL ob,x=.ref a/\H1 a=some (.dK aL ob)/\R (SK a aL ob) H1
theorem IN {o:Expr}{td:TE}{dC cG:Pos}(ho:PE X o td)(iC:attributeBase o "values" X.env (eval o X.env)=eval o X.env:=by rfl)(iD:(dC.endLine == cG.line)=true:=by rfl):PI X tg (.Call (.Attribute o "values" dC) [] [] cG) (PP td):=by
 intro ae s σ H R I h;refine wpAny_Call_method0_late iC iD (cV (ho ae s σ H _ I h) λv s1 ⟨x,H1,I1,r1,a,aL,ob,ex,hH,q⟩=>?_);subst ex;obtain⟨h1,h2⟩:=zK I1 r1 (T:="dict") (.inr (.inr (.inl ⟨rfl,.inl ⟨aL,ob,hH⟩⟩)));cases r1
 obtain⟨es,ep,hd⟩:=wc I1.hok hH;obtain⟨vs,r,m⟩:=qo I1.hok hH hd;have hl:vs.length=aL.length:=(Paired.length r).symm;refine⟨"dict","dict.values",PySem.F.plainAttrs_dict,PySem.F.slot_dict_values,PySem.F.type_dict_values,h1,h2,Calls.callWith_builtin rfl (PySem.evalArgs_none ?_)⟩;refine call_meetsIn PySem.F.slot_dict_values h1 PySem.F.entry_dict_values (PySem.F.args_dict_values_1 _) (meets_dict_values (cm X.prog X.w) a (pA I1.hok hH).2.1) ⟨⟨vs,m.dictOf⟩,?_⟩;have I2:Inv X ae σ H1 { s1 with heap:=s1.heap.push { cls:=.type "dict_values",data:=.fields #[.ref a] } }:=I1.kept (t':=s1.toks) λb o e=>vZ _ e;refine wpAny_pyIter_values (v:=s1.heap.objs.size) ⟨_,vY _ rfl,rfl,rfl⟩ (m.keep λb o e=>vZ _ e) ?_;rw[hl];refine⟨(s1.heap.push { cls:=.type "dict_values",data:=.fields #[.ref a] }).objs.size,[(s1.heap.push { cls:=.type "dict_values",data:=.fields #[.ref a] }).objs.size],_,_,H1,rfl,I2.kept (t':=s1.toks) λb o e=>vZ _ e,Dl a _ aL ob hd,⟨_,vY _ rfl,rfl,rfl⟩,λb hb=>?_,q⟩;have e:b=(s1.heap.push { cls:=.type "dict_values",data:=.fields #[.ref a] }).objs.size:=by simpa using hb
 subst e;exact I2.fpOk (vT _) (I2.hok.fresh (vT _))
end
end L2
namespace DL
open PySem PySem.Spec PySem.W PyProof.Rows L2
noncomputable def kD:c8->D
 |.inl i=>.int i
 |.inr z=>.str z
theorem PQ {K:PySem.W.Frag}{B:Hp}(k:c8):Is K B (kV k) (kD k):=by
 cases k with
 |inl i=>exact .int i
 |inr z=>exact .str z
section
variable {K:PySem.W.Frag}{B:Hp}
theorem IP {a:Addr}{ks:List c8}{vs:List V}{ds:List D}{ob:Obj}(h:B a=some (.dK (ks.zip vs) ob))(hl:ks.length=vs.length)(hs:IsL K B vs ds):pD K (SK a (ks.zip vs) ob) B ds:=by
 intro i H s;have hz:(ks.zip vs).length=vs.length:=by rw[List.length_zip];omega
 refine⟨λd ed=>?_,λbL=>⟨s _ _ h,by rw[hz,hs.length];exact bL⟩⟩;obtain⟨v,ev,iv⟩:=hs.get ed;have fR:i<vs.length:=(vV ev).1;refine⟨⟨s _ _ h,by rw[hz];exact fR⟩,λy H3 hy=>?_⟩;obtain⟨rfl,k,e⟩:=hy;have:=(List.getElem?_zip_eq_some.mp e).2;rw[ev]at this;cases this
 exact⟨B,.refl s,iv⟩
end
section
variable {X:Cx}{e:Expr}{tg:Expr}
@[simp] noncomputable def qp (f:FE):FA:=λρ=>(f ρ).bind λx=>match x.1 with|.dk _ ds=>some ds|_=>none
@[simp] noncomputable def SM (f:FE):FA:=λρ=>(f ρ).bind λx=>match x.1 with|.dk ks _=>some (ks.map kD)|_=>none
theorem B4 (h:JE X e f)(iC:attributeBase e "values" X.env (eval e X.env)=eval e X.env:=by rfl)(iD:(dC.endLine == cG.line)=true:=by rfl):JI X tg (.Call (.Attribute e "values" dC) [] [] cG) (qp f):=by
 intro ae s σ H R I q;obtain⟨B,ρ,ds,sB,r,e',q⟩:=q;obtain⟨⟨xd,xb⟩,ex,es⟩:=oX e';cases xd<;>try (cases es;done)
 cases es
 refine IN h iC iD ae s σ H R I ⟨B,ρ,_,_,sB,r,ex,λv H1 N1 x1 i1 _=>?_⟩;cases i1 with
 |@dk a ks vs ds ob hd hl hs=>exact⟨a,_,ob,rfl,x1.nh _ _ hd,q _ H1 N1 x1 (IP hd hl hs)⟩
end
end DL
namespace DL
open PySem PySem.Spec PyProof.Rows L2
@[simp] abbrev dI (i:Nat)(j:Int):FE:=f2 bM (aj i) (fC (.int j))
theorem bf (F:Fn X.prog X.w X.K X.mg X.base k x f)(hr:eV j X.A)(ha:JA X (e::es) fa)(hj:k<=j:=by decide)(hg:Gl X x:=by rfl)(rQ:(x == ("__debug__" : Str))=false:=by decide)(he:starEach (e::es) X.env=(false,eval e X.env)::starEach es X.env:=by rfl)(lz:(backTo pos (starEach es X.env)).any (·.1)=false:=by rfl):JE X (.Call (.Name x p) (e::es) [] pos) (fA f fa):=AV F (hr.mono hj) ha hg rQ he lz
theorem PR (h1:∀y∈scope.names,y.2≠.cell:=by decide +kernel)(h2:scope.kind=.function:=by rfl)(h3:∀y∈scope.names,y.2=.local->scope.names.lookup y.1=some .local:=by decide +kernel)(Om:(scope.names.all λy=>!(y.2 == NameKind.free) || (X.env.cells.lookup y.1).isSome)=true:=by rfl):CompSc X scope (dM scope.names X.env.cells []):=Md h1 h2 h3 Om
theorem US (h1:N'[j]? = some x)(h2:X.N[i]? = some x)(t:ni X N' scope (dM scope.names X.env.cells []) (j+1) r)(h3:X.env.kindOf x=some .cell∨X.env.kindOf x=some .free:=by exact Or.inl rfl)(h4:(relabel scope X.env).names.lookup x=some .cell∨(relabel scope X.env).names.lookup x=some .free:=by exact Or.inl rfl)(hf:(x,NameKind.free)∈scope.names:=by decide +kernel)(hc:(X.env.cells.lookup x).isSome=true:=by rfl):ni X N' scope (dM scope.names X.env.cells []) j (i::r):=.cons h1 h2 h3 h4 (ph hf hc) t
end DL
namespace DL
open PySem PySem.Spec PySem.W PyProof.Rows L2
noncomputable def nI:At->D
 |.i n=>.int n
 |.s z=>.str z
section
variable {prog:Program}{w:World}{A:Around}{E:Value->Shared->Prop}{s:Shared}
theorem PU (hx:ye x u)(hy:ye y v):SeqAt.EqAt A s u v (bE (nI x) (nI y)):=by
 cases x with
 |i a=>
  obtain⟨t,rfl⟩:=hx;cases y with
  |i c=>obtain⟨t',rfl⟩:=hy;simp only[nI,bE];exact SeqAt.EqAt.int_int _ _ _ _
  |s c=>obtain⟨t',rfl⟩:=hy;simp only[nI,bE];exact SeqAt.EqAt.int_str _ _ _ _
 |s a=>
  obtain⟨t,rfl⟩:=hx;cases y with
  |i c=>obtain⟨t',rfl⟩:=hy;simp only[nI,bE];exact SeqAt.EqAt.str_int _ _ _ _
  |s c=>obtain⟨t',rfl⟩:=hy;simp only[nI,bE];exact SeqAt.EqAt.str_str _ _ _ _
theorem B5:∀ {xs ys:List At}{vs:List Value},Paired ye xs vs->Paired ye ys vs->xs=ys
 |_,_,_,.nil,.nil=>rfl
 |x::xs,y::ys,_,.cons p ps,.cons q qs=>by
  rw[B5 ps qs];congr 1;cases x with
  |i a=>
   obtain⟨t,rfl⟩:=p;cases y with
   |i c=>obtain⟨t',e⟩:=q;cases e;rfl
   |s c=>obtain⟨t',e⟩:=q;cases e
  |s a=>
   obtain⟨t,rfl⟩:=p;cases y with
   |i c=>obtain⟨t',e⟩:=q;cases e
   |s c=>obtain⟨t',e⟩:=q;cases e;rfl
theorem MK (x y:At):bE (nI x) (nI y)=true↔x=y:=by
 cases x<;>cases y<;>simp[nI]
theorem pw:∀xs ys:List At,dn (xs.map nI) (ys.map nI)=true↔xs=ys
 |[],[]=>by simp[dn]
 |[],_::_=>by simp[dn]
 |_::_,[]=>by simp[dn]
 |x::xs,y::ys=>by
  rw[uY,uY,dn,vC,MK,pw xs ys];simp
theorem ML (hx:fj s.heap xs x)(hy:fj s.heap ys y)(hu:A.units<cLine):SeqAt.EqAt A s x y (dn (xs.map nI) (ys.map nI)):=by
 obtain⟨a,o,its,n,rfl,ho,hc,hd,r⟩:=hx;obtain⟨b,o',gp,m,rfl,wD,Jx,D9,r'⟩:=hy;by_cases hab:a=b
 ·subst hab;rw[ho]at wD;cases wD;rw[hd]at D9;cases D9;rw[B5 r r',(pw ys ys).mpr rfl];exact SeqAt.EqAt.same _
 ·have t1:s.heap.IsTuple a its:=⟨o,ho,hc,n,hd⟩;have t2:s.heap.IsTuple b gp:=⟨o',wD,Jx,m,D9⟩;have l1:xs.length=its.size:=by rw[←vG];exact gb r
  have l2:ys.length=gp.size:=by rw[←vG];exact gb r'
  have he:∀j (h1:j<its.size) (h2:j<gp.size),SeqAt.EqAt A.in1 s its[j] gp[j] (bE ((xs.map nI).getD j .non) ((ys.map nI).getD j .non)):=λj h1 h2=>by
   have p:=fm (.i 0) Value.none r (i:=j) (by omega);have q:=fm (.i 0) Value.none r' (i:=j) (by omega);have e1:its.toList.getD j Value.none=its[j]:=by rw[vF,Array.getElem?_toList,Array.getElem?_eq_getElem h1];rfl
   have e2:gp.toList.getD j Value.none=gp[j]:=by rw[vF,Array.getElem?_toList,Array.getElem?_eq_getElem h2];rfl
   rw[e1]at p;rw[e2]at q;have e3:(xs.map nI).getD j .non=nI (xs.getD j (.i 0)):=by simp[vF,show j<xs.length by omega]
   have e4:(ys.map nI).getD j .non=nI (ys.getD j (.i 0)):=by simp[vF,show j<ys.length by omega]
   rw[e3,e4];exact PU p q
  have rc:=SeqAt.RcAt.tuples t1 t2 hu he;have Qy:((List.range (min its.size gp.size)).all (λj=>bE ((xs.map nI).getD j .non) ((ys.map nI).getD j .non)) && its.size == gp.size)=dn (xs.map nI) (ys.map nI):=by
   rw[←l1,←l2];by_cases hl:xs.length=ys.length
   ·rw[←hl,Nat.min_self,beq_self_eq_true,Bool.and_true];have:=j6 (λj=>bE ((xs.map nI).getD j .non) ((ys.map nI).getD j .non)) (xs:=xs.map nI) (ys:=ys.map nI) (by simpa using hl) λj x y e1 e2=>uJ j x y e1 e2;rwa [vI]at this
   ·rw[uI (by simpa using hl),beq_eq_false_iff_ne.mpr hl,Bool.and_false]
  rw[Qy]at rc;exact SeqAt.EqAt.of_refs hab rc
theorem Dm (xs:List At):aY xs xs=some false:=by
 induction xs with
 |nil=>rfl
 |cons x xs ih=>cases x<;>rw[aY,if_pos rfl,ih]
theorem FF (hx:fj s.heap xs x)(hy:fj s.heap ys y)(h:aY (.i n::xs) (.i m::ys)=some b)(hu:A.units<cLine)(q:Q b s)(hn:ye (.i n) u)(hm:ye (.i m) v):KatLex prog w A true false Q [(u,v),(x,y)] 0 s:=by
 obtain⟨t,rfl⟩:=hn;obtain⟨t',rfl⟩:=hm;refine kat_cons (wpAny_eqBool_int ?_);rw[aY]at h;by_cases e:n=m
 ·rw[if_pos e]at h;rw[show(n == m)=true by simp[e]];refine kat_yes (kat_cons (ML hx hy hu _ _ _ _ ?_));by_cases e2:xs=ys
  ·rw[(pw xs ys).mpr e2];rw[e2,Dm]at h;cases h
   exact kat_yes (kat_nil q)
  ·rw[Bool.eq_false_iff.mpr λz=>e2 ((pw xs ys).mp z)];refine kat_no (kat_one _ _ ?_);show wpAny _ _ (richCompare .Lt x y) _ _ _;exact Fx (Q:=W.BoolBack Q) hx hy h hu (by first|exact q|exact⟨b,rfl,q⟩)
 ·rw[if_neg e]at h;cases h
  rw[show(n == m)=false by simp[e]];exact kat_no (oneLt_int q)
end
def Dn (h:Heap)(xs:List At)(v:Value):Prop:=∃n k a o its m u x,xs=.i n::k/\v=.ref a/\h.get? a=some o/\o.cls=.type "tuple"/\o.data=.seq its m/\its.toList=[u,x]/\ye (.i n) u/\fj h k x
section
variable {prog:Program}{w:World}{A:Around}{E:Value->Shared->Prop}{s:Shared}
theorem IQ (hx:Dn s.heap xs x)(hy:Dn s.heap ys y)(h:aY xs ys=some b)(hu:A.units<cLine)(q:Q b s):wpAny (model prog w) A (keyLt' (tuples' true) x y) Q E s:=by
 obtain⟨n,k,a,o,its,m,u,x',rfl,rfl,ho,_,hd,ei,an,tx⟩:=hx;obtain⟨n',k',a',o',its',m',u',y',rfl,rfl,wD,_,D9,VW,Yp,ty⟩:=hy;refine kat_lt ho hd wD D9 ?_;rw[ei,VW];have hf:decide (its.size<its'.size)=false:=by
  rw[←vG,←vG,ei,VW];rfl
 rw[hf];exact FF tx ty h hu q an Yp
theorem oy:∀ {ks:List (List At)}{vs:List Value},Paired (Dn h) ks vs->∃fs,KatTups h vs fs/\fs.length=ks.length/\∀v∈fs,∃n,ye (.i n) v
 |_,_,.nil=>⟨[],trivial,rfl,by simp⟩
 |k::ks,_,.cons x t=>by
  obtain⟨fs,h1,h2,h3⟩:=oy t;obtain⟨n,k,a,o,its,m,u,x',rfl,rfl,ho,hc,hd,ei,an,_⟩:=x;refine⟨u::fs,KatTups.cons ho hc hd (by rw[←Array.getElem?_toList,ei];rfl) h1,by simp[h2],λv hv=>?_⟩;rcases vP hv with rfl|hv
  ·exact⟨n,an⟩
  ·exact h3 v hv
theorem Dp (hp:Paired (Dn s.heap) ks vs)(hn:0<ks.length)(q:Q (tuples' true) s):wpAny (model prog w) A (keyKind' vs.toArray) Q E s:=by
 obtain⟨fs,h1,h2,h3⟩:=oy hp;refine kat_kind (T:=.type "int") h1 (by omega) (λv hv=>?_) (by decide) q;obtain⟨n,t,rfl⟩:=h3 v hv;exact .now
theorem FH (hc:di ks=true)(hu:A.units<cLine)(hp:Paired (Dn s.heap) ks vs):∀(i j:Nat)(C:Bool->Shared->Prop)(s1:Shared),i<ks.length->j<ks.length->s1=s->(∀s',s'=s->C (pU (z4 ks) i j) s')->kas_ask prog w A (tuples' true) vs i j C s1:=by
 intro i j C s1 hi hj e hC;subst e;unfold kas_ask;have mi:ks.getD i []∈ks:=by rw[vF,vU hi];exact List.getElem_mem hi
 have mj:ks.getD j []∈ks:=by rw[vF,vU hj];exact List.getElem_mem hj
 refine IQ (fm [] Value.none hp hi) (fm [] Value.none hp hj) (gX hc mi mj) hu ?_;have:=hC s1 rfl;unfold pU z4 at this;rw[yc (uS ⟨_,mi,rfl⟩)]at this;exact this
end
def MN:D->Option (List At)
 |.tup [.int n,.tup es]=>(cX es).map (.i n :: ·)
 |_=>none
def jo:List D->Option (List (List At))
 |[]=>some []
 |d::ds=>(MN d).bind λa=>(jo ds).map (a :: ·)
theorem tL:∀ {ds:List D}{ks:List (List At)},jo ds=some ks->ks.length=ds.length
 |[],_,h=>by simp only[jo]at h;cases h;rfl
 |d::ds,_,h=>by
  simp only[jo]at h;obtain⟨a,h1,h⟩:=oX h;obtain⟨r,h2,h⟩:=oY h;subst h;simp[tL h2]
theorem yr (I:Inv X ae σ H s):∀ {ys:List V}{ds:List D}{ks:List (List At)}{its:List Value},aW ys its->IsL X.K H ys ds->jo ds=some ks->Paired (Dn s.heap) ks its
 |_,_,_,_,.nil,.nil,h=>by simp only[jo]at h;cases h;exact .nil
 |_,_,_,_,.cons r rr,.cons i ii,h=>by
  simp only[jo]at h;obtain⟨a,h1,h⟩:=oX h;obtain⟨t,h2,h⟩:=oY h;subst h;refine .cons ?_ (yr I rr ii h2);unfold MN at h1;split at h1
  ·rename_i n es;obtain⟨k,ND,rfl⟩:=oY h1;cases i with
   |tup hq hl=>
    cases r
    obtain⟨its',r',⟨o,ho,hc,m,hd⟩,_⟩:=I.tuple hq;cases hl with
    |cons i1 hl=>
     cases hl with
     |cons i2 hl=>
      cases hl
      cases r' with
      |cons r1 r'=>
       cases r' with
       |cons r2 r'=>
        cases r'
        cases i1
        have hk:dj [D.tup es]=some [k]:=by show(cX es).bind _=_;rw[ND];rfl
        have ht:=m7 I (.cons r2 .nil) (.cons i2 .nil) hk;cases ht with
        |cons ht _=>exact⟨n,k,_,o,_,m,_,_,rfl,rfl,ho,hc,hd,rfl,r1,ht⟩
  ·cases h1
theorem IS (hu:A.units<cLine):KK X A jo λ_=>true:=⟨tL,λI _ _ _ _ r i e _ hc=>have hp:=yr I r i e;⟨λhn _ _ q=>Dp hp hn q,FH hc hu hp⟩⟩
theorem FI (hu:X.A.units+40<cLine):KK X X.A.in1.in1 jo λ_=>true:=IS (show X.A.units+1+1<cLine by omega)
@[simp] abbrev Au:FE->(Env->D->Option D)->FE:=vz jo λ_=>true
end DL
namespace DL
open PySem PySem.Spec PyProof.Rows L2
def PV:Nat->(List Value->Prop)->Prop
 |0,P=>P []
 |n+1,P=>∀a,PV n λl=>P (a::l)
theorem MO:∀n P,PV n P->∀us:List Value,us.length=n->P us
 |0,_,h,[],_=>h
 |n+1,_,h,a::us,e=>MO n _ (h a) us (Nat.succ.inj e)
section
variable {P:Program}{w:World}{K:PySem.W.Frag}{mg:Str->Option Value}{base:Heap}
def KC (K:PySem.W.Frag)(mg:Str->Option Value)(x:Str)(c:D):Prop:=∃u v,mg x=some u/\ba v u/\∀B,Is K B v c
def KD (w:World)(K:PySem.W.Frag)(mg:Str->Option Value)(x:Str)(c:List (Str×D)):Prop:=∃d,mg x=some (.ref d)/\sV K w.params d c
theorem kc_of {x:Str}{c:D}{h:Heap}(X:K.In h)(G:h.Ns mainGlobals mg)(k:∃u v,PySem.W.nsIn K mainGlobals x=some (some u)/\ba v u/\∀B,Is K B v c):KC K mg x c:=let ⟨u,v,e,r⟩:=k;⟨u,v,PySem.W.mg_of X G e,r⟩
theorem kd_of {x:Str}{c:List (Str×D)}{h:Heap}(X:K.In h)(G:h.Ns mainGlobals mg)(k:∃d,PySem.W.nsIn K mainGlobals x=some (some (.ref d))/\sV K w.params d c):KD w K mg x c:=let ⟨d,e,r⟩:=k;⟨d,PySem.W.mg_of X G e,r⟩
theorem dH.fqL {x:Str}{st:Stmt}{k:Nat}{F':List D->Option (D×Bool)}(F:dH K x st)(B:∃h,K.In h/\h.Ns mainGlobals mg)(g:FS)(N:List Str)(n:Nat)
  (hb:∀ {f:Addr}{eK:Value}{A:Around}{outer:List PySem.Env}{s:Shared}{H:Hp}{E:XK},N.Nodup->eV k (A.deeper (envOfC x (aP st) s.heap.objs.size f eK))->(A.deeper (envOfC x (aP st) s.heap.objs.size f eK)).units+40<cLine->(∀c P,PySem.W.tabIn K x=some (c,P)->eK=.ref c)->wI (oQ zw P w K mg base N x (aP st) f eK A outer s H E).nox (cK st) g)
  (S:FnScope N (N.take n) (aP st):=by refine⟨rfl,rfl,rfl,?_,rfl,?_,?_⟩<;>decide +kernel)
  (JG:∀(kV doc pm:Value)(an:Option Addr)(eK ct:Value)(us:List Value),us.length=(N.take n).length->bindArgs (PySem.W.fnOf x x (gs st) (cK st) (aP st) .none kV doc pm an eK ct) ⟨us,[]⟩=pure ((N.take n).zip us):=by
   exact λ_ _ _ _ _ _=>MO _ _ (by(repeat intro);rfl))
  (e:aN g (N.take n).length (N.length - (N.take n).length)=F':=by rfl):
  Fn P w K mg base (k+1) x F':=let ⟨_,X,G⟩:=B;e ▸ F.fnL X G S JG λ_ _ _ _ _ _ _ hc hr=>hb S.nd hr (CL hr) hc
theorem dH.fq {x:Str}{st:Stmt}{k:Nat}{F':List D->Option (D×Bool)}(F:dH K x st)(B:∃h,K.In h/\h.Ns mainGlobals mg)(g:FS)(N:List Str)(n:Nat)
  (hb:∀ {f:Addr}{eK:Value}{A:Around}{outer:List PySem.Env}{s:Shared}{H:Hp}{E:XK},N.Nodup->eV k (A.deeper (envOfC x (aP st) s.heap.objs.size f eK))->(A.deeper (envOfC x (aP st) s.heap.objs.size f eK)).units+40<cLine->wI (oQ zw P w K mg base N x (aP st) f eK A outer s H E).nox (cK st) g)
  (S:FnScope N (N.take n) (aP st):=by refine⟨rfl,rfl,rfl,?_,rfl,?_,?_⟩<;>decide +kernel)
  (JG:∀(kV doc pm:Value)(an:Option Addr)(eK ct:Value)(us:List Value),us.length=(N.take n).length->bindArgs (PySem.W.fnOf x x (gs st) (cK st) (aP st) .none kV doc pm an eK ct) ⟨us,[]⟩=pure ((N.take n).zip us):=by
   exact λ_ _ _ _ _ _=>MO _ _ (by(repeat intro);rfl))
  (e:aN g (N.take n).length (N.length - (N.take n).length)=F':=by rfl):
  Fn P w K mg base (k+1) x F':=F.fqL B g N n (λn r u _=>hb n r u) S JG e
end
section
variable {X:Cx}{x:Str}{pos:Pos}
theorem z5 (i:Nat)(hN:X.N.Nodup)(hi:X.N[i]? = some x:=by rfl)(hx:GY X.env.scope x:=by first|exact Or.inl rfl|exact Or.inr rfl)(hf:X.fn x=true∨X.env.scope.names.lookup x=some .local:=by first|exact .inl rfl|exact .inr rfl):PG X (.Name x pos) (jM i):=AK hN hi hx hf
theorem Ob {fp}(i:Nat)(hN:N'.Nodup:=by decide +kernel)(hi:(fH X N' scope cl C s H fp).N[i]? = some x:=by rfl)(hx:GY (fH X N' scope cl C s H fp).env.scope x:=by exact Or.inl rfl)(hf:(fH X N' scope cl C s H fp).fn x=true∨(fH X N' scope cl C s H fp).env.scope.names.lookup x=some .local:=by first|exact .inl rfl|exact .inr rfl):PG (fH X N' scope cl C s H fp) (.Name x pos) (jM i):=AK hN hi hx hf
theorem iL (N':List Str)(hi:JI X tg df fi)(hc:∀ {C s H fp},JC (fH X N' scope (dM scope.names X.env.cells []) C s H fp) wE fc)(he:∀ {C s H fp},JE (fH X N' scope (dM scope.names X.env.cells []) C s H fp) zj fe)
  (JD:Me X.K nT rW g:=by first|exact xl (by decide)|exact K4 (by decide)) (hg:∀ {C s H fp},PG (fH X N' scope (dM scope.names X.env.cells []) C s H fp) tg g:=by intros;first|exact Ob 0|exact ut rfl (eM (Ob 0) (eM (Ob 1) lX)))
  (cp:ni X N' scope (dM scope.names X.env.cells []) nT cap:=by repeat first|exact .nil rfl|refine US rfl rfl ?_)
  (S:CompSc X scope (dM scope.names X.env.cells []):=by exact PR) (l7:X.calm=true:=by rfl)
  (hs:∀x,foldedSetIterable df X.env x=pure x:=by intro _;rfl):
  JE X (.ListComp zj [⟨tg,df,wE,0⟩] scope pos) (bS fi nT cap rW fc fe):=HY l7 S cp hi (λ_ _ _ _=>hg) JD (λ_ _ _ _=>hc) (λ_ _ _ _=>he) hs
theorem oz (N':List Str)(hN:X.N.Nodup)(hi:JI X tg df fi)(hc:∀ {C s H fp},JC (fH X N' scope (dM scope.names X.env.cells []) C s H fp) wE fc)(he:∀ {C s H fp},JE (fH X N' scope (dM scope.names X.env.cells []) C s H fp) zj fe)
  (JD:Me X.K nT rW g:=by first|exact xl (by decide)|exact K4 (by decide)) (hg:∀ {C s H fp},PG (fH X N' scope (dM scope.names X.env.cells []) C s H fp) tg g:=by intros;first|exact Ob 0|exact ut rfl (eM (Ob 0) (eM (Ob 1) lX)))
  (cp:ni X N' scope (dM scope.names X.env.cells []) nT cap:=by repeat first|exact .nil rfl|refine US rfl rfl ?_)
  (DG:X.N[i]? = some y:=by rfl) (hy:X.env.kindOf y=some .local:=by rfl)
  (Qx:swapsWith (.ListComp zj [⟨tg,df,wE,0⟩] scope pos) (some (.Name y py)) spos.line X.env=pure true:=by rfl)
  (S:CompSc X scope (dM scope.names X.env.cells []):=by exact PR) (l7:X.calm=true:=by rfl)
  (hs:∀x,foldedSetIterable df X.env x=pure x:=by intro _;rfl):
  JS X (.Assign [.Name y py] (.ListComp zj [⟨tg,df,wE,0⟩] scope pos) spos) (aQ i (bS fi nT cap rW fc fe)):=HZ l7 hN DG hy Qx S cp hi (λ_ _ _ _=>hg) JD (λ_ _ _ _=>hc) (λ_ _ _ _=>he) hs
theorem qq (hi:JI X tg df fi)(hg:PG X tg t)(ht:HV X.K rW t)(hb:wI X body g)(hp:PassesOwn (model X.prog X.w) X.A X.env X.xe:=by exact PassesOwn.never)(hc:X.calm=true:=by rfl)
  (hs:∀x,foldedSetIterable df X.env x=pure x:=by intro _;rfl):JS X (.For tg df body [] pos) (oS fi rW g):=Mk hp hc hi hg ht hb hs
theorem yt (hi:PI X tg df (Rr X.K fi))(hg:PG X tg t)(ht:HV X.K rW t)(hb:wI X body g)(hp:PassesOwn (model X.prog X.w) X.A X.env X.xe:=by exact PassesOwn.never)(hc:X.calm=true:=by rfl)
  (hs:∀x,foldedSetIterable df X.env x=pure x:=by intro _;rfl):JS X (.For tg df body [] pos) (lm fi rW g):=Ig hp hc hi hg ht hb hs
end
end DL
namespace DL
open PySem PySem.Spec PySem.W PyProof.Rows L2
section
variable {X:Cx}
@[simp] def Zj:D->D->Option (D×Bool)
 |.tup [.int n,.tup xs],.tup [.int m,.tup ys]=>(cX xs).bind λas=>(cX ys).bind λbs=>(aY (.i n::as) (.i m::bs)).map λr=>(.bl (!r),false)
 |_,_=>none
end
theorem qr:entryFor table "dict_itemiterator.__iter__" = some Builtin.«dict_keyiterator.__iter__»:=entryFor_alias (id':="dict_keyiterator.__iter__") (by kernel_rfl) rfl (by decide +kernel) (by kernel_rfl)
theorem we (he:IsItemIter s.heap it d i n ep ok ov)(h:Q (.ref it) s):wpAny (model prog w) A (pyIter (.ref it)) Q E s:=by
 have hT:s.TypeIs (.ref it) "dict_itemiterator":=⟨_,he,rfl⟩;refine wpAny_pyIter_slot hT PySem.F.slot_dict_itemiterator_iter (wpAny_call_entry PySem.F.slot_dict_itemiterator_iter hT qr ?_ (PySem.F.args_dict_itemiterator_iter_1 _));show wpAny _ _ (ret (.ref it)) _ _ s;exact wY ⟨_,rfl,"dict_itemiterator",_,hT,PySem.F.slot_dict_itemiterator_next.lookup,h⟩
noncomputable def SN (a:Addr)(aL:List (c8×V))(ob:Obj):It:=⟨λi H=>H a=some (.dK aL ob)/\i<aL.length,λi H y H'=>∃T k v,y=.ref T/\H T=none/\H'=upd H T (.tup [kV k,v])/\aL[i]? = some (k,v),λi H=>H a=some (.dK aL ob)/\aL.length<=i⟩
theorem Av {P:Program}{w:World}{K:PySem.W.Frag}{es:List Expr}{kt:Nat}{pt:Pos}(a it:Addr)(aL:List (c8×V))(ob:Obj){ds:Array DictEntry}{ep:Nat}(hd:ob.data=.dict ds ep):Turn P w K (.Tuple es kt pt) (SN a aL ob) [it] it (λi h=>∃ok ov,IsItemIter h it a i aL.length ep ok ov) where
 mem:=by simp
 obj:=λi h st b hb=>by
  have e:b=it:=by simpa using hb
  subst e;obtain⟨ok,ov,e⟩:=st;exact⟨_,e,λv z=>by cases z⟩
 keep:=λi h h' st k=>let ⟨ok,ov,e⟩:=st;⟨ok,ov,k it (by simp) _ e⟩
 item:=by
  intro X hP hw hK hc i ae s σ H E I hf st hg;subst hP hw hK;obtain⟨ok,ov,he⟩:=st;obtain⟨hH,fR⟩:=hg;obtain⟨vs,r,m⟩:=qo I.hok hH hd;have hl:vs.length=aL.length:=(Paired.length r).symm;obtain⟨u,hu,ru⟩:=r.get (k:=aL[i].1) (x:=aL[i].2) (vU fR);have fresh:H s.heap.objs.size=none:=I.hok.fresh (vT _);have RI:it≠s.heap.objs.size:=vS (vX he);refine wpAny_pyNext_items_item (by rw[hl];exact he) m hu λkey h' DB ho hT hsz hk=>?_;rw[hl]at ho;refine⟨_,rfl,wpAny_letOwnedTupleGo_items (s:={ s with heap:=h' }) ho λh2 Op s2=>?_⟩;have Oq:Heap.SameBut it h' h2:=s2;have kk:∀b o,b∉[it]->s.heap.get? b=some o->h2.get? b=some o:=λb o hb q=>Oq.extBut _ _ (λz=>hb (by simp[z])) (hk b o (λz=>hb (by simp[z])) q);have new:bO X.prog X.w (upd H s.heap.objs.size (.tup [kV aL[i].1,aL[i].2])) h2 s.heap.objs.size (.tup [kV aL[i].1,aL[i].2]):=⟨by show 2<=sizeLine;decide,[key,u],.cons (PN DB) (.cons ru .nil),⟨_,Oq.extBut _ _ RI.symm hT,rfl,_,rfl⟩⟩;refine⟨.ref s.heap.objs.size,upd H s.heap.objs.size (.tup [kV aL[i].1,aL[i].2]),K5 (s:=s) (t':=s.toks) I hf kk (vT _) new,rfl,⟨_,aL[i].1,aL[i].2,rfl,fresh,rfl,vU fR⟩,⟨_,_,Op⟩,λb hb=>?_⟩;have oM:b≠s.heap.objs.size:=by
   have e:b=it:=by simpa using hb
   rw[e];exact RI
  rw[aI oM];exact(hf b hb).1
 done:=by
  intro X hP hw hK hc i ae s σ H E I hf st hg;subst hP hw hK;obtain⟨ok,ov,he⟩:=st;obtain⟨hH,JH⟩:=hg;obtain⟨vs,r,m⟩:=qo I.hok hH hd;have hl:vs.length=aL.length:=(Paired.length r).symm;exact wpAny_pyNext_items_end (I.ok.hd hc) (by rw[hl];exact he) m (List.getElem?_eq_none (by omega)) λh' hk=>⟨rfl,pi (t':=s.toks) I hf λb o hb q=>hk b o (λz=>hb (by simp[z])) q⟩
 self:=λ_ _ _ _ _ st h=>let ⟨_,_,he⟩:=st;we he h
section
variable {X:Cx}{es:List Expr}{kt:Nat}{pt:Pos}{e:Expr}
def SO (td:TE):TI:=λσ H R=>td σ H λx H1=>∃a aL ob,x=.ref a/\H1 a=some (.dK aL ob)/\R (SN a aL ob) H1
theorem FJ {o:Expr}{td:TE}{dC cG:Pos}(ho:PE X o td)(iC:attributeBase o "items" X.env (eval o X.env)=eval o X.env:=by rfl)(iD:(dC.endLine == cG.line)=true:=by rfl):PI X (.Tuple es kt pt) (.Call (.Attribute o "items" dC) [] [] cG) (SO td):=by
 intro ae s σ H R I h;refine wpAny_Call_method0_late iC iD (cV (ho ae s σ H _ I h) λv s1 ⟨x,H1,I1,r1,a,aL,ob,ex,hH,q⟩=>?_);subst ex;obtain⟨h1,h2⟩:=zK I1 r1 (T:="dict") (.inr (.inr (.inl ⟨rfl,.inl ⟨aL,ob,hH⟩⟩)));cases r1
 obtain⟨es,ep,hd⟩:=wc I1.hok hH;obtain⟨vs,r,m⟩:=qo I1.hok hH hd;have hl:vs.length=aL.length:=(Paired.length r).symm;refine⟨"dict","dict.items",PySem.F.plainAttrs_dict,PySem.F.slot_dict_items,PySem.F.type_dict_items,h1,h2,Calls.callWith_builtin rfl (PySem.evalArgs_none ?_)⟩;refine call_meetsIn PySem.F.slot_dict_items h1 PySem.F.entry_dict_items (PySem.F.args_dict_items_1 _) (meets_dict_items (cm X.prog X.w) a (pA I1.hok hH).2.1) ⟨⟨vs,m.dictOf⟩,?_⟩;have I2:Inv X ae σ H1 { s1 with heap:=s1.heap.push { cls:=.type "dict_items",data:=.fields #[.ref a] } }:=I1.kept (t':=s1.toks) λb o e=>vZ _ e;refine wpAny_pyIter_items (v:=s1.heap.objs.size) ⟨_,vY _ rfl,rfl,rfl⟩ (m.keep λb o e=>vZ _ e) ?_;rw[hl];refine⟨(s1.heap.push { cls:=.type "dict_items",data:=.fields #[.ref a] }).objs.size,[(s1.heap.push { cls:=.type "dict_items",data:=.fields #[.ref a] }).objs.size],_,_,H1,rfl,I2.kept (t':=s1.toks) λb o e=>vZ _ e,Av a _ aL ob hd,⟨_,_,vY _ rfl⟩,λb hb=>?_,q⟩;have e:b=(s1.heap.push { cls:=.type "dict_items",data:=.fields #[.ref a] }).objs.size:=by simpa using hb
 subst e;exact I2.fpOk (vT _) (I2.hok.fresh (vT _))
noncomputable def lJ (ks:List c8)(ds:List D):List D:=(ks.zip ds).map λx=>.tup [kD x.1,x.2]
theorem FK {K:PySem.W.Frag}{B:Hp}{a:Addr}{ks:List c8}{vs:List V}{ds:List D}{ob:Obj}(h:B a=some (.dK (ks.zip vs) ob))(hl:ks.length=vs.length)(hs:IsL K B vs ds):pD K (SN a (ks.zip vs) ob) B (lJ ks ds):=by
 intro i H s;have hz:(ks.zip vs).length=vs.length:=by rw[List.length_zip];omega
 have hn:=hs.length;refine⟨λd ed=>?_,λbL=>⟨s _ _ h,by unfold lJ at bL;rw[vI,List.length_zip]at bL;omega⟩⟩;unfold lJ at ed;rw[vA]at ed;obtain⟨⟨k0,d0⟩,ek,rfl⟩:=oY ed;obtain⟨e1,e2⟩:=List.getElem?_zip_eq_some.mp ek;obtain⟨v,ev,iv⟩:=hs.get e2;have fR:i<vs.length:=(vV ev).1;refine⟨⟨s _ _ h,by rw[hz];exact fR⟩,λy H3 hy=>?_⟩;obtain⟨T,k,v',rfl,hT,rfl,e⟩:=hy;obtain⟨g1,g2⟩:=List.getElem?_zip_eq_some.mp e;rw[e1]at g1;cases g1;rw[ev]at g2;cases g2;have xt:=Ext.laid (o:=.tup [kV k0,v']) s hT;exact⟨_,xt,.tup (jf.of aE) (.cons (PQ _) (.cons (iv.mono xt.bn) .nil))⟩
@[simp] def B6 (f:FE):FA:=λρ=>(f ρ).bind λx=>match x.1 with|.dk ks ds=>some (lJ ks ds)|_=>none
theorem FL (h:JE X e f)(iC:attributeBase e "items" X.env (eval e X.env)=eval e X.env:=by rfl)(iD:(dC.endLine == cG.line)=true:=by rfl):JI X (.Tuple es kt pt) (.Call (.Attribute e "items" dC) [] [] cG) (B6 f):=by
 intro ae s σ H R I q;obtain⟨B,ρ,ds,sB,r,e',q⟩:=q;obtain⟨⟨xd,xb⟩,ex,es⟩:=oX e';cases xd<;>try (cases es;done)
 cases es
 refine FJ h iC iD ae s σ H R I ⟨B,ρ,_,_,sB,r,ex,λv H1 N1 x1 i1 _=>?_⟩;cases i1 with
 |@dk a ks vs ds ob hd hl hs=>exact⟨a,_,ob,rfl,x1.nh _ _ hd,q _ H1 N1 x1 (FK hd hl hs)⟩
end
section
variable {K:PySem.W.Frag}{E:Ends}{σ:St}{H:Hp}
def qt (i:Nat)(fk fv:FE):FS:=λρ=>match ρ[i]? with
 |some (some (.dk ks vs,true))=>(fv (ml ρ)).bind λv=>(fk ρ).bind λk=>(kx k.1).bind λkk=>if ks.length<sizeLine then some (.nx (ρ.set i (some (.dk (dD ks kk) (dE ks vs kk v.1),true))))else none
 |_=>none
theorem Dq (q:nw K (qt i fk fv) E σ H):AS (DZ i) (tD K fk) (tD K fv) E σ H:=by
 obtain⟨B0,H0,ρ,r,⟨N,s⟩,e,p⟩:=q;unfold qt at e;split at e
 ·rename_i ks ds ei;obtain⟨v,ev,e⟩:=oX e;obtain⟨k,ek,e⟩:=oX e;obtain⟨kk,hk,e⟩:=oX e;split at e
  ·rename_i hx;cases e
   refine⟨dL N (own σ ρ),ml ρ,v.1,v.2,bQ.trans s.ext.nh,s.repH,ev,λv1 H1 N1 x1 i1 _=>?_⟩;obtain⟨s1,c⟩:=s.growH x1;obtain⟨a,o,h1,h2,h3,h4⟩:=s1.ow i _ ei;refine⟨.ref a,h1,_,ρ,k.1,k.2,s1.ext.nh,s1.rep,ek,λv2 H2 N2 x2 i2 _=>?_⟩;have s2:=s1.grow x2;have hv:=tI i2 hk;subst hv;obtain⟨a',o',k1,k2,k3,k4⟩:=s2.ow i _ ei;rw[h1]at k1;cases k1
   cases k4 with
   |@dk ks vs ds hl h5 ob=>
    refine⟨a,rfl,.inl ⟨_,kk,_,s2.ext.nh _ _ k2,rfl,?_,λTt=>?_⟩⟩
    ·rw[List.length_zip];omega
    ·rw[pv hl];exact p σ _ ⟨_,s2.writeB ei h1 (.dk (mC hl _ _) (h5.put ((i1.mono c).mono (eN λa o e q=>⟨x2.bn a o e,q⟩))))⟩
  ·cases e
 ·cases e
end
section
variable {X:Cx}{pos:Pos}{e k:Expr}
theorem FM (hu:X.A.units+1<cLine)(hv:JE X e fv)(hk:JE X k fk)(hN:X.N[i]? = some y:=by rfl)(AH:DY X.env.scope y:=by first|exact Or.inl rfl|exact Or.inr (Or.inl rfl)|exact Or.inr (Or.inr rfl))(hd:(y == ("__debug__" : Str))=false:=by decide)
  (jz:(y == ("__classdict__" : Str))=false:=by decide) (hs:swapsWith e (some (.Subscript (.Name y py) k pt)) pos.line X.env=pure false:=by rfl):JS X (.Assign [.Subscript (.Name y py) k pt] e pos) (qt i fk fv) :=
 PS.to (uC hu (lA hN AH hd jz) hk hv hs) λ_ _ _ q=>Dq q
end
section
variable {prog:Program}{w:World}{A:Around}{E:Value->Shared->Prop}{s:Shared}
theorem B7:∀(vs:List Value)(ns:List Int),vs.length=ns.length->(∀(i:Nat)(v:Value),vs[i]? = some v->∃(m:Int)(t:Tok),ns[i]? = some m/\v=Value.int m t)->IntsAre vs ns
 |[],[],_,_=>.nil
 |v::vs,n::ns,h,k=>by
  obtain⟨m,t,e,rfl⟩:=k 0 v rfl;cases (show some n=some m from e)
  exact .cons n t (B7 vs ns (by simpa using h) λi v hv=>k (i+1) v hv)
theorem yu (hh:A.handled=none)(lo:(a == sysModules)=false)(hm:s.heap.DictAt (cm prog w) a aL ep)(hk:aL.map (·.1)=ns.map .inl)(um:ns.length<64)
  (hQ:∀(h1 h':Heap)(tk:Nat)(b:Addr)(out:Array Value)(n:Nat)(O2:List Int),(∀c u,s.heap.get? c=some u->h1.get? c=some u)->(∀c u,h1.get? c=some u->h'.get? c=some u)->h1.objs.size<=b->h'.get? b=some (seqObj "list" out n) ->
   IntsAre out.toList O2->O2.Perm ns->O2.Pairwise (·<=·)->Q (.ref b) { s with heap:=h',toks:=tk }):
  wpAny (model prog w) A (call (.builtin "sorted") [.ref a]) Q E s:=by
 refine Calls.call_function_entry kind_sorted plain_sorted entry_sorted (args_sorted1 _) ?_;unfold Builtin.«sorted»;refine wX (m:=checkCount "sorted" 1 1 _) (wY ?_);have RL:aL.length=ns.length:=by have:=congrArg List.length hk;simpa using this
 refine wX (kdu_collect (A:=A.in1) (kdl_dict lo) (by exact hh) hm (by rw[sizeLine_eq];omega) λh1 tk lV hkeep GL=>?_);have zk:lV.toList.length=ns.length:=by rw[vG,GL.1,RL]
 have jL:IntsAre lV.toList ns:=B7 lV.toList ns zk λi v hv=>by
  obtain⟨k,x,e1,e2⟩:=GL.2 i v (by simpa using hv);have e3:(aL.map (·.1))[i]? = some k:=by rw[vA,e1];rfl
  rw[hk,vA]at e3;obtain⟨m,e4,rfl⟩:=oY e3;obtain⟨t,rfl⟩:=Value.isInt_shape (k:=m) (v:=v) e2;exact⟨m,t,e4,rfl⟩
 refine wX (wpAny_newList ?_ (by rw[zk,sizeLine_eq];omega));have DS:(h1.push (seqObj "list" lV.toList.toArray 0)).get? h1.objs.size=some (seqObj "list" lV.toList.toArray 0):=vY _ rfl;show wpAny _ _ _ _ _ { s with heap:=h1.push (seqObj "list" lV.toList.toArray 0),toks:=tk };refine wX (wpAny_holding (wpAny_call_entry slot_list_sort ⟨_,DS,rfl⟩ entry_list_sort (list_sort_tree DS jL (by rw[zk];exact um) λout O2 a1 a2 a3=>⟨_,rfl,?_⟩) (args_list_sort _)));obtain⟨n,he⟩:=sortedHeap_at (out:=out) DS;refine wY ⟨_,rfl,hQ h1 _ _ _ out n O2 hkeep (λb u q=>?_) (vT _) he a1 a2 a3⟩;have hl:=vX q;rw[sortedHeap_old (vS hl) (by rw[size_push'];exact Nat.lt_succ_of_lt hl)];exact vZ _ q
end
noncomputable def tM:List c8->Option (List Int)
 |[]=>some []
 |.inl n::ks=>(tM ks).map (n :: ·)
 |.inr _::_=>none
theorem yv:∀ {ks:List c8}{ns:List Int},tM ks=some ns->ks=ns.map .inl
 |[],_,h=>by cases h;rfl
 |.inl n::ks,_,h=>by
  obtain⟨r,h1,rfl⟩:=oY h;rw[yv h1];rfl
 |.inr _::_,_,h=>by cases h
theorem IT {aL:List (c8×V)}{vs:List (c8×Value)}(r:KV aL vs):vs.map (·.1)=aL.map (·.1):=by
 unfold KV at r;induction r with
 |nil=>rfl
 |cons h t ih=>rw[uY,uY,ih,h.1]
@[simp] def jp:List D->Option (D×Bool)
 |[.dk ks _]=>(tM ks).bind λns=>if ns.length<64 then some (.lst ((ko ns).map .int),true)else none
 |_=>none
section
variable {X:Cx}
theorem Dr (hc:X.calm=true):bP X (.builtin "sorted") (zM X.K jp):=by
 intro ae s σ H xs us Q I r h;obtain⟨B,dl,d,bb,sB,i,ee,q⟩:=h;cases i with
 |nil=>simp[jp]at ee
 |cons i1 i2=>
  cases i2 with
  |cons _ _=>cases i1<;>simp[jp]at ee
  |nil=>
   cases i1 with
   |@dk a ks vs ds ob hd hl hs=>
    obtain⟨u,rfl,rx⟩:=gM r;cases rx
    simp only[jp]at ee;obtain⟨ns,en,ee⟩:=oX ee;split at ee
    ·rename_i um;cases ee
     have hH:=sB _ _ hd;obtain⟨es,ep,Yq⟩:=wc I.hok hH;obtain⟨RD,r',m⟩:=qo I.hok hH Yq;have Yr:RD.map (·.1)=ns.map .inl:=by rw[IT r',List.map_fst_zip (by omega),yv en]
     refine yu (I.ok.hd hc) (pA I.hok hH).2.1 m Yr um λh1 h' tk b out n O2 k1 k2 hb he jL gI rX=>?_;have e:=yj gI rX;subst e;have I1:Inv X ae σ H { s with heap:=h1,toks:=tk }:=t6 I k1 rfl rfl;have hf:H b=none:=I1.hok.fresh hb;have xt:=Ext.laid (o:=.lst ((ko ns).map V.int)) sB hf;exact⟨.ref b,_,I1.laid (t':=tk) k2 hb (show bO X.prog X.w _ h' _ (.lst ((ko ns).map V.int))from ⟨by rw[vI];unfold ko;rw[(b9 _ ns).length_eq,sizeLine_eq];omega,out.toList,n,gV jL,he⟩),rfl,q _ _ _ xt (.lst (iF.of aE) (m8 _)) λ_=>⟨_,_,_,rfl,rfl,hf,aE,m8 _⟩⟩
    ·cases ee
   |_=>simp[jp]at ee
theorem MP (hu:X.A.units+1<cLine)(hi:JE X i fi)(ho:JE X o fo)(hm:behindInMarks .In o=false:=by first|exact jW _ (by decide) (by decide)|rfl):JE X (.Compare i [.In] [o] pos) (f2 R0 fi fo):=by
 refine PE.to (Ly (LW hu hi ho) hm) λσ H Q q=>?_;obtain⟨B,ρ,d,bb,sB,r,ee,q⟩:=q;obtain⟨y,ey,ee⟩:=oX ee;obtain⟨x,ex,ee⟩:=oX ee;refine⟨B,ρ,y.1,y.2,sB,r,ey,λv2 H1 N1 x1 i2 _=>⟨N1,ρ,x.1,x.2,x1.nh,r.mono x1.bn,ex,λv H2 N2 x2 i1 ff=>?_⟩⟩;obtain⟨xd,xb⟩:=x;cases i1 with
 |@dk a ks vs ds ob h hl hs=>
  simp only[R0]at ee;obtain⟨k,hk,ee⟩:=oY ee;cases ee
  have hv:=tI i2 hk;subst hv;refine⟨a,jZ (ks.zip vs) k,rfl,.inl ⟨_,k,_,.inl (x2.nh _ _ h),rfl,rfl⟩,?_⟩;rw[Dh hl hs];exact(q.into (x1.trans x2)).one x2.nh (.bl _)
 |_=>simp[R0]at ee
end
end DL
namespace DL
open PySem PySem.Spec PyProof.Rows L2
@[simp] abbrev fV (i:Nat)(g:FA):FA:=af (aj i) g
@[simp] abbrev fI (n:Int):FE:=fC (.int n)
@[simp] abbrev fS (s:PySem.Str):FE:=fC (.str s)
section
variable {X:Cx}{es:List Expr}{g:FA}{pos:Pos}
theorem aH {x:Str}{p:Pos}(i:Nat)(hr:JA X es g)(hN:X.N[i]? = some x:=by rfl)(hv:DY X.env.scope x:=by first|exact Or.inl rfl|exact Or.inr (Or.inl rfl)|exact Or.inr (Or.inr rfl))(hd:(x == ("__debug__" : Str))=false:=by decide)(jz:(x == ("__classdict__" : Str))=false:=by decide)
  (hs:starEach (.Name x p::es) X.env=(false,eval (.Name x p) X.env)::starEach es X.env:=by rfl):JA X (.Name x p::es) (fV i g):=ah (ag i hN hv hd jz) hr hs
theorem bV {i:Int}{j:Nat}(hr:JA X es g):JA X (.Constant (.int i) j pos::es) (af (fC (.int i)) g):=ah av hr
theorem a8 (F:Fn X.prog X.w X.K X.mg X.base k x f)(hr:eV j X.A)(ha:JA X (e::es) g:=by repeat first|exact am|refine aH _ ?_|refine ah aB ?_)(hj:k<=j:=by decide)(hg:Gl X x:=by rfl)(rQ:(x == ("__debug__" : Str))=false:=by decide)(he:starEach (e::es) X.env=(false,eval e X.env)::starEach es X.env:=by rfl)(lz:(backTo pos (starEach es X.env)).any (·.1)=false:=by rfl):JE X (.Call (.Name x p) (e::es) [] pos) (fA f g):=AV F (hr.mono hj) ha hg rQ he lz
theorem bg (he:JE X e f):wI X [.Return (some e) pos] (aZ f):=bq (EC he)
theorem cB {c:Expr}{fc:FT}(hc:JT X c fc)(he:JE X e f):JS X (.If c [.Return (some e) p] [] pos) (eG fc (aZ f) bp):=eP hc (bq (EC he)) dN
theorem bK (i:Nat)(hN:X.N[i]? = some x:=by rfl)(hv:DY X.env.scope x:=by first|exact Or.inl rfl|exact Or.inr (Or.inl rfl)|exact Or.inr (Or.inr rfl))(hd:(x == ("__debug__" : Str))=false:=by decide)(jz:(x == ("__classdict__" : Str))=false:=by decide):JE X (.Subscript (.Name x p) (.Constant (.int n) j q) pos) (dI i n):=aS (ag i hN hv hd jz) av
end
end DL
namespace DL
open PySem L2
theorem gD {tg:FG}{g:FS}(I:Nat->Env->Prop)(ds:List D)(ρ0:Env)(h0:I 0 ρ0)
  (step:∀i d ρ,ds[i]? = some d->I i ρ->∃ρ1 ρ',tg d ρ=some ρ1/\(g ρ1=some (.nx ρ')∨g ρ1=some (.ct ρ'))/\I (i+1) ρ'):
  ∃ρ',iT tg g ds ρ0=some (.nx ρ')/\I ds.length ρ':=by
 have key:∀(es:List D)(i:Nat)(ρ:Env),ds.drop i=es->i+es.length=ds.length->I i ρ->∃ρ',iT tg g es ρ=some (.nx ρ')/\I ds.length ρ':=by
  intro es;induction es with
  |nil=>intro i ρ e hl h;refine⟨ρ,by rw[E3],?_⟩;rw[←hl];exact h
  |cons d es ih=>
   intro i ρ e hl h;have hd:ds[i]? = some d:=by
    have:(ds.drop i)[0]? = some d:=by rw[e];rfl
    rwa [List.getElem?_drop,Nat.add_zero]at this
   obtain⟨ρ1,ρ',h1,h2,h3⟩:=step i d ρ hd h;have he:ds.drop (i+1)=es:=by rw[←List.drop_drop,e];rfl
   obtain⟨ρ2,k1,k2⟩:=ih (i+1) ρ' he (by simp at hl;omega) h3;refine⟨ρ2,?_,k2⟩;rw[CH,h1];rcases h2 with h2|h2<;>simp only[vJ,h2]<;>exact k1
 exact key ds 0 ρ0 (by simp) (by simp) h0
theorem ky {tg:FG}{g:FS}(n:Nat)(I:Nat->Env->Prop)(ρ0:Env)(h0:I 0 ρ0)
  (step:∀(i:Nat) ρ,i<n->I i ρ->∃ρ1 ρ',tg (.int (i:Int)) ρ=some ρ1/\(g ρ1=some (.nx ρ')∨g ρ1=some (.ct ρ'))/\I (i+1) ρ'):
  ∃ρ',iT tg g (fY 0 n) ρ0=some (.nx ρ')/\I n ρ':=by
 have hl:(fY 0 n).length=n:=by simp[fY]
 obtain⟨ρ',h1,h2⟩:=gD (tg:=tg) (g:=g) I (fY 0 n) ρ0 h0 λi d ρ hd h=>by
  unfold fY at hd;rw[vA]at hd;obtain⟨k,hk,hd⟩:=oY hd;obtain⟨fR,hk⟩:=vV hk;rw[List.length_range]at fR;rw[List.getElem_range]at hk;subst hk;rw[Int.zero_add]at hd;subst hd;exact step i ρ fR h
 rw[hl]at h2;exact⟨ρ',h1,h2⟩
theorem k6 {α:Type}{xs:List α}{j:Nat}(h:j<xs.length):oj xs (j:Int)=some xs[j]:=HI (by simp[h])
theorem wg {α:Type}{xs:List α}{i:Int}(h0:0<=i)(h:i.toNat<xs.length):oj xs i=some xs[i.toNat]:=by
 have:=k6 h;rwa [Int.toNat_of_nonneg h0]at this
@[simp] theorem K9 (xs:List Int):bz (xs.map D.int)=true:=by
 induction xs with
 |nil=>simp
 |cons x xs ih=>simp[ih]
@[simp] theorem Hg (n:Nat)(xs:List Int):(xs.map D.int).all (aq n)=true:=by
 induction xs with
 |nil=>simp
 |cons x xs ih=>simpa using ih
@[simp] theorem IU (xs:List Int):(xs.map D.int).all g7=true:=by
 induction xs with
 |nil=>simp
 |cons x xs ih=>simpa using ih
theorem Ds (n:Nat):fY 0 n=((List.range n).map λ(k:Nat)=>(k:Int)).map D.int:=by
 unfold fY;rw[uP];apply List.map_congr_left;intro k _;simp
mutual
def mD:D->D->Bool
 |.non,.non=>true
 |.bl a,.bl b=>a == b
 |.int a,.int b=>decide (a=b)
 |.str a,.str b=>decide (a=b)
 |.ty a,.ty b=>decide (a=b)
 |.tup xs,.tup ys=>qu xs ys
 |.lst xs,.lst ys=>qu xs ys
 |_,_=>false
def qu:List D->List D->Bool
 |[],[]=>true
 |x::xs,y::ys=>mD x y && qu xs ys
 |_,_=>false
end
mutual
theorem B8:∀ {x y:D},mD x y=true->x=y
 |.non,.non,_=>rfl
 |.bl a,.bl b,h=>by simp[mD]at h;rw[h]
 |.int a,.int b,h=>by simp[mD]at h;rw[h]
 |.str a,.str b,h=>by simp[mD]at h;rw[h]
 |.ty a,.ty b,h=>by simp[mD]at h;rw[h]
 |.tup xs,.tup ys,h=>by rw[mD]at h;rw[qw h]
 |.lst xs,.lst ys,h=>by rw[mD]at h;rw[qw h]
theorem qw:∀ {xs ys:List D},qu xs ys=true->xs=ys
 |[],[],_=>rfl
 |x::xs,y::ys,h=>by
  rw[qu,vC]at h;rw[B8 h.1,qw h.2]
end
def UT (r:Option (D×Bool))(d:D)(b:Bool):Bool:=match r with
 |some (e,c)=>mD e d && c == b
 |none=>false
theorem bi {r:Option (D×Bool)}{d:D}{b:Bool}(h:UT r d b=true):r=some (d,b):=by
 unfold UT at h;split at h
 ·rw[vC]at h;rw[B8 h.1,eq_of_beq h.2]
 ·cases h
section
variable {f:FE}{c:FT}{g g' h:FS}{ρ ρ':Env}{i:Nat}{d:D}{b:Bool}{r:Option Res}{ds:List D}
theorem aw {n k:Nat}(hl:ds.length=n)(e:g (ds.map (λd=>some (d,false))++List.replicate k none)=some (.rt d b)):aN g n k ds=some (d,b):=by
 unfold aN;rw[if_pos hl,e]
theorem tN (n:bv d=true):setE ρ i d b=ρ.set i (some (d,false)):=by unfold setE;rw[if_pos n]
theorem yw (n:bz ds=true):setE ρ i (.lst ds) true=ρ.set i (some (.lst ds,true)):=by
 unfold setE;rw[if_neg (by simp),if_pos ⟨rfl,by simpa using n⟩]
theorem KA (e:f ρ=some (d,b))(k:h (setE ρ i d b)=r):aA (aQ i f) h ρ=r:=by simp[e];exact k
theorem MQ (e:f ρ=some (d,b))(n:bv d=true)(k:h (ρ.set i (some (d,false)))=r):aA (aQ i f) h ρ=r:=KA e (by rw[tN n];exact k)
theorem cx (e:f ρ=some (.lst ds,true))(n:bz ds=true)(k:h (ρ.set i (some (.lst ds,true)))=r):aA (aQ i f) h ρ=r:=KA e (by rw[yw n];exact k)
theorem dm (e:g ρ=some (.nx ρ'))(k:h ρ'=r):aA g h ρ=r:=by unfold aA;rw[e];exact k
theorem SQ (e:g ρ=some (.rt d b)):aA g h ρ=some (.rt d b):=by unfold aA;rw[e]
theorem SR (e:g ρ=some (.ct ρ')):aA g h ρ=some (.ct ρ'):=by unfold aA;rw[e]
theorem lK (e:c ρ=some true)(k:g ρ=r):eG c g g' ρ=r:=by unfold eG;rw[e];exact k
theorem nJ (e:c ρ=some false)(k:g' ρ=r):eG c g g' ρ=r:=by unfold eG;rw[e];exact k
theorem FN {x:Bool}(e:c ρ=some x)(kt:x=true->g ρ=r)(kf:x=false->g' ρ=r):eG c g g' ρ=r:=by
 cases x with
 |true=>exact lK e (kt rfl)
 |false=>exact nJ e (kf rfl)
theorem bF (e:c ρ=some true)(k:g ρ=some (.rt d b)):aA (eG c g g') h ρ=some (.rt d b):=SQ (lK e k)
theorem aC (e:c ρ=some false)(k:h ρ=r):aA (eG c g bp) h ρ=r:=dm (nJ e rfl) k
theorem az (e:f ρ=some (d,b)):aZ f ρ=some (.rt d b):=by simp[e]
theorem px (e:ρ[i]? = some (some (d,b)))(hb:Kg d=false:=by rfl):jO i ρ=some (.rt d b):=by simp only[jO,e,hb];simp
theorem qx (e:f ρ=some (d,b))(n:bv d=true):aQ i f ρ=some (.nx (ρ.set i (some (d,false)))):=by
 show(f ρ).map _=_;rw[e,Option.map_some,tN n]
theorem wj (e:f ρ=some (.lst ds,true))(n:bz ds=true):aQ i f ρ=some (.nx (ρ.set i (some (.lst ds,true)))):=by
 show(f ρ).map _=_;rw[e,Option.map_some,yw n]
theorem gK (e:ρ[i]? = some (some (.lst ds,true)))(ef:f ρ=some (d,b))(n:bv d=true)(l:ds.length<sizeLine):jh i f ρ=some (.nx (ρ.set i (some (.lst (ds++[d]),true)))):=by
 simp[e,ef,n,l]
theorem KE (e:ρ[i]? = some (some (.lst ds,true)))(ef:f ρ=some (d,b))(n:bv d=true)(l:ds.length<sizeLine)(k:h (ρ.set i (some (.lst (ds++[d]),true)))=r):aA (jh i f) h ρ=r:=dm (gK e ef n l) k
theorem k7 {fi:FA}{tg:FG}{ds:List D}(e:fi ρ=some ds)(k:iT tg g ds ρ=some (.nx ρ')):lm fi tg g ρ=some (.nx ρ'):=by unfold lm;rw[e];exact k
theorem jD {fi:FA}{tg:FG}{ds:List D}(e:fi (ml ρ)=some ds)(k:iT tg g ds ρ=some (.nx ρ')):oS fi tg g ρ=some (.nx ρ'):=by unfold oS;rw[e];exact k
theorem gZ {f:FE}{j:Nat}(e:f ρ=some (.int j,b))(hj:j<=1000):fZ f ρ=some (fY 0 j):=by
 unfold fZ;rw[e];simp only[];rw[if_pos (by omega)];simp
theorem MT {x:Bool}(e:f ρ=some (.bl x,b)):bw f ρ=some x:=by unfold bw;rw[e]
theorem B9 {F:List D->Option (D×Bool)}{fa:FA}{x:Option (D×Bool)}(e:fa ρ=some ds)(k:F ds=x):fA F fa ρ=x:=by unfold fA;rw[e,vJ];exact k
theorem yx {f1 g1:D->D->Option (D×Bool)}{fa fb fc:FE}{x y z:D}{b1 b2 b3 b4 p q:Bool}(ea:fa ρ=some (x,b1))(eb:fb ρ=some (y,b2))(ec:fc ρ=some (z,b3))(e1:f1 x y=some (.bl p,b4))(e2:p=true->g1 y z=some (.bl q,false)):nz f1 g1 fa fb fc ρ=some (.bl (p && q),false):=by
 unfold nz;rw[ea,eb,ec];simp only[vJ,e1];cases p
 ·rfl
 ·exact e2 rfl
theorem dB {f1 f2:FE}{p q b1:Bool}(e1:f1 ρ=some (.bl p,b1))(e2:p=true->f2 ρ=some (.bl q,false)):j5 f1 f2 ρ=some (.bl (p && q),false):=by
 unfold j5;rw[e1];cases p
 ·rfl
 ·exact e2 rfl
theorem mE {f1 f2:FE}{p q b1:Bool}(e1:f1 ρ=some (.bl p,b1))(e2:p=false->f2 ρ=some (.bl q,false)):Hd f1 f2 ρ=some (.bl (p || q),false):=by
 unfold Hd;rw[e1];cases p
 ·exact e2 rfl
 ·rfl
theorem IV {f1:FE}{p b1:Bool}(e1:f1 ρ=some (.bl p,b1)):zQ f1 ρ=some (.bl (!p),false):=by
 unfold zQ;rw[e1]
theorem aF {fr:FA}{xs:List D}(e1:f ρ=some (d,b))(e2:fr ρ=some xs):af f fr ρ=some (d::xs):=by
 unfold af;rw[e1,vJ,e2,vJ]
theorem iY {op:D->D->Option (D×Bool)}{fa fb:FE}{x y:D}{b1 b2:Bool}{z:Option (D×Bool)}(e1:fa ρ=some (x,b1))(e2:fb ρ=some (y,b2))(e3:op x y=z):f2 op fa fb ρ=z:=by
 unfold f2;rw[e1,vJ,e2,vJ];exact e3
theorem dF {c1 c2:FT}{p q:Bool}(e1:c1 ρ=some p)(e2:p=true->c2 ρ=some q):eE c1 c2 ρ=some (p && q):=by
 unfold eE;rw[e1];cases p
 ·rfl
 ·exact e2 rfl
theorem cY {c1 c2:FT}{p q:Bool}(e1:c1 ρ=some p)(e2:p=false->c2 ρ=some q):j3 c1 c2 ρ=some (p || q):=by
 unfold j3;rw[e1];cases p
 ·exact e2 rfl
 ·rfl
theorem cn {c1:FT}{p:Bool}(e1:c1 ρ=some p):fz c1 ρ=some (!p):=by
 unfold fz;rw[e1];rfl
end
theorem R3 (a c:Nat):decide ([a]<[c])=decide (a<c):=by
 congr 1;rw[List.cons_lt_cons_iff];simp
@[simp] theorem R4 (a c:Nat):wK (.str ⟨#[a]⟩) (.str ⟨#[c]⟩)=some (.bl (decide (a<=c)),false):=by
 unfold wK;show some (D.bl (!decide ([c]<[a])),false)=_;rw[R3];congr 3;by_cases h:c<a
 ·rw[decide_eq_true h,decide_eq_false (by omega)];rfl
 ·rw[decide_eq_false h,decide_eq_true (by omega)];rfl
theorem bA {n:Nat}(h:n<=100000):n<sizeLine:=Nat.lt_of_le_of_lt h (by decide)
theorem dP {n:Nat}(h:n<=100000):n<=sizeLine:=Nat.le_of_lt (bA h)
theorem iM {α:Type}{fi:FA}{nT:Nat}{cap:List Nat}{tg:FG}{c:FT}{fe:FE}{ρ:DL.Env}(l:List α)(g:α->D)(p:α->Bool)(h:α->D)(e:fi ρ=some (l.map g))(hl:l.length<=100000)
  (k:∀x∈l,∃ρ1,tg (g x) (cA nT cap ρ)=some ρ1/\c ρ1=some (p x)/\(p x=true->∃b,fe ρ1=some (h x,b))):bS fi nT cap tg c fe ρ=some (.lst ((l.filter p).map h),true):=by
 have key:∀l':List α,(∀x∈l',x∈l)->hV tg c fe (cA nT cap ρ) (l'.map g)=some ((l'.filter p).map h):=by
  intro l';induction l' with
  |nil=>intro _;simp
  |cons x l' ih=>
   intro hm;obtain⟨ρ1,h1,h2,h3⟩:=k x (hm x mX);have ih:=ih λy hy=>hm y (mZ _ hy);rw[uY,zP,h1,vJ,h2,vJ];cases hp:p x with
   |false=>simp[hp,ih]
   |true=>
    obtain⟨b,h4⟩:=h3 hp;simp[hp,ih,h4]
 unfold bS;rw[e,vJ,if_pos (dP (by simpa using hl)),key l λ_ h=>h,Option.map_some]
theorem mF {α:Type}{fi:FA}{nT:Nat}{cap:List Nat}{tg:FG}{fe:FE}{ρ:DL.Env}(l:List α)(g:α->D)(h:α->D)(e:fi ρ=some (l.map g))(hl:l.length<=100000)
  (k:∀x∈l,∃ρ1,tg (g x) (cA nT cap ρ)=some ρ1/\∃b,fe ρ1=some (h x,b)):bS fi nT cap tg gz fe ρ=some (.lst (l.map h),true):=by
 have:=iM (c:=gz) (fe:=fe) l g (λ_=>true) h e hl λx hx=>by
  obtain⟨ρ1,h1,h2⟩:=k x hx;exact⟨ρ1,h1,rfl,λ_=>h2⟩
 rw[List.filter_eq_self.mpr λ_ _=>rfl]at this;exact this
@[simp] theorem qy {α:Type}(f:α->Bool)(l:List α):pL (l.map λx=>.bl (f x))=some (l.map f):=by
 induction l with
 |nil=>rfl
 |cons x l ih=>simp[ih]
theorem zH {z:Str}{i:Int}(h0:0<=i)(h:i.toNat<z.cps.size)(hz:z.length<=100000):bM (.str z) (.int i)=some (.str ⟨#[z.cps.toList.getD i.toNat 0]⟩,false):=by
 have hh:i.toNat<z.cps.toList.length:=by simpa using h
 simp only[bM];rw[if_pos (dP hz),wg h0 hh];simp[List.getD,h]
theorem Aw {ds:List D}{i:Int}(h0:0<=i)(h:i.toNat<ds.length):bM (.lst ds) (.int i)=some (ds.getD i.toNat .non,false):=by
 simp only[bM];rw[wg h0 h];simp[List.getD,h]
theorem zG {ds:List D}{i:Int}(h0:0<=i)(h:i.toNat<ds.length):bM (.tup ds) (.int i)=some (ds.getD i.toNat .non,false):=by
 simp only[bM];rw[wg h0 h];simp[List.getD,h]
theorem BA {xs:List Int}{i:Int}(h0:0<=i)(h:i.toNat<xs.length):bM (.lst (xs.map .int)) (.int i)=some (.int (xs.getD i.toNat 0),false):=by
 rw[Aw h0 (by simpa using h)];simp[List.getD,h]
theorem mod_lt {x m:Int}(hm:0<m):0<=x % m/\x % m<m:=⟨Int.emod_nonneg _ (by omega),Int.emod_lt_of_pos _ hm⟩
theorem IW {ds:List D}:hZ [.lst ds]=some (.int ds.length,false):=rfl
theorem BB {i j:Int}:dG (.int i) (.int j)=some (.bl (decide (i=j)),false):=by simp
theorem bD {ρ:Env}{op:D->D->Option (D×Bool)}{fa fb:FE}(x y:D){z:Option (D×Bool)}(e1:fa ρ=some (x,false))(e2:fb ρ=some (y,false))(e3:op x y=z):f2 op fa fb ρ=z:=iY e1 e2 e3
theorem de {ρ:Env}{f:FE}{x:Bool}(e:f ρ=some (.bl x,false)):bw f ρ=some x:=MT e
theorem cj {ρ:Env}{f:FE}{d:D}{fr:FA}{xs:List D}(e1:f ρ=some (d,false))(e2:fr ρ=some xs):af f fr ρ=some (d::xs):=aF e1 e2
theorem aJ {ρ:Env}{F:List D->Option (D×Bool)}{fa:FA}{x:Option (D×Bool)}(ds:List D)(e:fa ρ=some ds)(k:F ds=x):fA F fa ρ=x:=B9 e k
theorem gd {ρ:Env}{f:FE}{h:FS}{i:Nat}{r:Option Res}(d:D)(e:f ρ=some (d,false))(n:bv d=true)(k:h (ρ.set i (some (d,false)))=r):aA (aQ i f) h ρ=r:=MQ e n k
@[simp] noncomputable abbrev Zk (ab:List D)(aa:Int)(t:Env):Env:=some (.tup ab,false)::some (.int aa,false)::t
@[simp] noncomputable abbrev eR (ns:List Int)(zs:List Str)(ms:Int)(dh:List Str)(R:List D)(a b:Option (D×Bool))(t:Env):Env:=some (.lst (ns.map .int),false)::some (.lst (zs.map .str),false)::some (.int ms,false)::a::some (.lst (dh.map .str),true)::some (.lst R,true)::b::t
end DL
namespace Lw
open PySem DL
noncomputable def yy:D:=(.tup [(.str "paper"),(.str "like"),(.str "copy")])
noncomputable def gR:List (PySem.Str×D):=[(("root" : Str),(.tup [(.str "office"),(.str "matters"),(.str "further"),(.str "rule")])),(("named" : Str),(.tup [(.str "day"),(.str "office"),(.str "person")])),(("chosen" : Str),(.tup [(.str "day"),(.str "by"),(.str "office"),(.str "person"),(.str "since")])),(("heir" : Str),(.tup [(.str "day"),(.str "by"),(.str "office"),(.str "person")])),(("death" : Str),(.tup [(.str "day"),(.str "person")])),(("lost" : Str),(.tup [(.str "day"),(.str "person")])),(("found" : Str),(.tup [(.str "day"),(.str "person")])),(("leave" : Str),(.tup [(.str "day"),(.str "by"),(.str "person"),(.str "matters"),(.str "stretch"),(.str "further")])),(("paper" : Str),(.tup [(.str "day"),(.str "by"),(.str "matters"),(.str "stretch"),(.str "whom"),(.str "pieces")])),(("like" : Str),(.tup [(.str "day"),(.str "by"),(.str "matters"),(.str "stretch"),(.str "whom"),(.str "of"),(.str "changes")])),(("copy" : Str),(.tup [(.str "day"),(.str "by"),(.str "of")])),(("call" : Str),(.tup [(.str "day"),(.str "by"),(.str "of")]))]
noncomputable def ig:D:=(.tup [(.str "chosen"),(.str "heir"),(.str "leave"),(.str "paper"),(.str "like"),(.str "copy"),(.str "call")])
def tO:FS :=
  (aZ (f2 bM (dI 0 1) (fI 0)))
def aK:=aN tO 1 0
def tP:FS :=
  (aZ (f2 bM (dI 0 1) (f2 bX (fI 1) (f2 (oW gR) (fA aK (fV 0 ai)) (aj 1)))))
def au:=aN tP 2 0
def yz:FS :=
  (aA (eG (bw (f2 dG (fA aK (fV 0 ai)) (fS ("root" : Str)))) (aZ (fC .non)) bp)
  (aZ (fA au (fV 0 (af (fS ("day" : Str)) ai)))))
def aO:=aN yz 1 0
def BC:FS :=
  (aZ (bS (Fc (aj 0)) 2 [1] (K2 [0,1]) (bw (f2 wK (dI 1 0) (aj 2))) (aj 0)))
def cF:=aN BC 2 0
def FP:FS :=
  (aZ (fA aV (af (fA aO (af (f2 bM (aj 0) (aj 1)) ai)) (fV 1 ai))))
def ft:=aN FP 2 0
def qz:FS :=
  (aA (aQ 2 (bS (cq (fA cF (fV 0 (fV 1 ai)))) 1 [0] (dA 0) (bw (f2 lC (fA aO (af (f2 bM (aj 1) (aj 0)) ai)) (fC .non))) (aj 0)))
  (aZ (qd (aj 2) (qc [0] (fA ft (fV 1 (fV 0 ai)))))))
def dQ:=aN qz 2 1
def o0:FS :=
  (aZ (fA aV (af (dI 0 0) (af (dI 0 2) (af (dI 0 4) ai)))))
def gE:=aN o0 1 0
def BD:FS :=
  (aA (aQ 2 (bS (cq (fA cF (fV 0 (fV 1 ai)))) 1 [0] (dA 0) gz (f2 bM (aj 1) (aj 0))))
  (aZ (fA jC (af (bS (cq (aj 2)) 1 [] (dA 0) (bw (f2 dG (fA aK (fV 0 ai)) (fS ("root" : Str)))) (fA aV (af (fA au (fV 0 (af (fS ("office" : Str)) ai))) (fV 0 ai)))) ai))))
def gu:=aN BD 2 1
def q8:FS :=
  (aZ (j5 (nz wK Pz (fI 0) (aj 2) (fA hZ (fV 0 ai))) (f2 wK (f2 bM (f2 bM (aj 0) (aj 2)) (fI 0)) (aj 1))))
def cC:=aN q8 3 0
def BE:FS :=
  (aZ (j5 (f2 xE (fA aK (fV 0 ai)) (aj 1)) (j5 (f2 dG (fA au (fV 0 (af (fS ("person" : Str)) ai))) (aj 2)) (f2 wK (fA aO (fV 0 ai)) (aj 3)))))
def pz:=aN BE 4 0
def tQ:FS :=
  (aZ (bS (cq (fA cF (fV 0 (fV 1 ai)))) 1 [2,3,4,0] (dA 0) (bw (fA pz (af (f2 bM (aj 4) (aj 0)) (fV 1 (fV 2 (fV 3 ai)))))) (aj 0)))
def hU:=aN tQ 5 0
def BF:FS :=
  (aZ (f2 dG (fA hZ (af (fA hU (fV 0 (fV 1 (af (fA aV (af (fS ("death" : Str)) ai)) (fV 2 (fV 3 ai)))))) ai)) (fI 0)))
def mG:=aN BF 4 0
def qA:FS :=
  (aA (aQ 4 (fA hU (fV 0 (fV 1 (af (fA aV (af (fS ("lost" : Str)) (af (fS ("found" : Str)) ai))) (fV 2 (fV 3 ai)))))))
  (aA (eG (bw (f2 dG (fA hZ (fV 4 ai)) (fI 0))) (aZ (fC (.bl true))) bp)
  (aZ (f2 dG (fA aK (af (f2 bM (aj 0) (tG (aj 4) (qc [0] (fA ft (fV 1 (fV 0 ai)))))) ai)) (fS ("found" : Str))))))
def lL:=aN qA 4 1
def qB:FS :=
  (aA (eG (j3 (fz (bw (fA cC (fV 0 (fV 1 (fV 2 ai)))))) (bw (f2 ia (fA aK (af (f2 bM (aj 0) (aj 2)) ai)) (fC ig)))) (aZ (fC (.bl false))) bp)
  (aA (aQ 3 (fA au (af (f2 bM (aj 0) (aj 2)) (af (fS ("by" : Str)) ai))))
  (aA (aQ 4 (fA aO (af (f2 bM (aj 0) (aj 2)) ai)))
  (aZ (j5 (fA mG (fV 0 (fV 1 (fV 3 (fV 4 ai))))) (fA lL (fV 0 (fV 1 (fV 3 (fV 4 ai))))))))))
def dR:=aN qB 3 2
def tR:FS :=
  (aZ (j5 (f2 wK (dI 1 0) (aj 0)) (Hd (f2 DQ (dI 1 1) (fC .non)) (f2 Pz (aj 0) (dI 1 1)))))
def jq:=aN tR 2 0
def qC:FS :=
  (aZ (fA jq (fV 1 (af (fA aV (af (dI 0 2) (af (dI 0 3) ai))) ai))))
def cR:=aN qC 2 0
def qD:FS :=
  (aZ (fA aV (af (dI 0 2) (af (dI 0 4) ai))))
def dr:=aN qD 1 0
def qE:FS :=
  (aA (eG (bw (f2 dG (aj 1) (fS ("last" : Str)))) (aZ (f2 bM (tG (aj 0) (sn dr)) (fI 1))) bp)
  (aZ (f2 bM (tH (aj 0) (sn dr)) (fI 1))))
def lM:=aN qE 2 0
def o3:FS :=
  (aA (aQ 3 (bS (cq (aj 0)) 1 [2,1] (dA 0) (eE (bw (f2 dG (dI 0 0) (fA au (fV 2 (af (fS ("office" : Str)) ai))))) (bw (fA cR (fV 0 (fV 1 ai))))) (aj 0)))
  (aA (aQ 4 (f1 gA (bS (cq (aj 3)) 1 [] (dA 0) gz (dI 0 1))))
  (aA (eG (bw (f2 dG (fA hZ (fV 4 ai)) (fI 0))) (aZ (fA aV (af (fS ("none" : Str)) ai))) bp)
  (aA (eG (eE (bw (f2 He (fA hZ (fV 4 ai)) (fI 1))) (bw (f2 dG (fA au (fV 1 (af (fS ("rule" : Str)) ai))) (fS ("open" : Str))))) (aZ (fA aV (af (fS ("parted" : Str)) (fV 4 ai)))) bp)
  (aA (aQ 5 (fA lM (fV 3 (af (fA au (fV 1 (af (fS ("rule" : Str)) ai))) ai))))
  (aA (aQ 6 (tH (bS (cq (aj 3)) 1 [5] (dA 0) (bw (f2 dG (dI 0 1) (aj 1))) (aj 0)) (sn dr)))
  (aZ (fA aV (af (fS ("one" : Str)) (fV 5 (af (dI 6 4) ai)))))))))))
def dS:=aN o3 3 4
def mH:FS :=
  (aZ (f2 dG (Rw (fA dS (fV 0 (fV 1 (fV 3 ai)))) ED (Ba (fI 2))) (fA aV (af (fS ("one" : Str)) (fV 2 ai)))))
def cL:=aN mH 4 0
def jr:FS :=
  (aA (aQ 3 (f2 bM (aj 0) (aj 2)))
  (aA (aQ 4 (fA hU (fV 0 (fV 1 (af (fA aV (af (fS ("death" : Str)) ai)) (af (fA au (fV 3 (af (fS ("person" : Str)) ai))) (af (fA aO (fV 3 ai)) ai)))))))
  (aZ (f2 dG (tH (aj 4) (qc [0] (fA ft (fV 1 (fV 0 ai))))) (aj 2)))))
def ge:=aN jr 3 2
def y0:FS :=
  (aA (aQ 4 (f2 bM (aj 0) (aj 3)))
  (aA (eG (bw (f2 dG (fA aK (fV 4 ai)) (fS ("death" : Str)))) (aZ (fA ge (fV 0 (fV 1 (fV 3 ai))))) bp)
  (aA (eG (bw (f2 ia (fA aK (fV 4 ai)) (fA aV (af (fS ("named" : Str)) (af (fS ("chosen" : Str)) (af (fS ("heir" : Str)) ai)))))) (aZ (fC (.bl false))) bp)
  (aA (aQ 5 (f2 Fz (fA gu (fV 0 (fV 1 ai))) (fA au (fV 4 (af (fS ("office" : Str)) ai)))))
  (aA (eG (bw (f2 DQ (aj 5) (fC .non))) (aZ (fC (.bl false))) bp)
  (aA (eG (bw (f2 dG (fA aK (fV 4 ai)) (fS ("named" : Str)))) (aZ (fC (.bl true))) bp)
  (aZ (j5 (fA dR (fV 0 (fV 1 (fV 3 ai)))) (fA cL (fV 2 (fV 5 (af (fA au (fV 4 (af (fS ("by" : Str)) ai))) (af (fA aO (fV 4 ai)) ai)))))))))))))
def mI:=aN y0 4 2
def o4:FS :=
  (aZ (fA aV (af (fA au (fV 0 (af (fS ("office" : Str)) ai))) (af (fA au (fV 0 (af (fS ("person" : Str)) ai))) (fV 1 (af (fC .non) (fV 2 ai)))))))
def gF:=aN o4 3 0
def qF:FS :=
  (eG (j3 (bw (f2 ia (dI 5 0) (aj 1))) (j3 (bw (f2 CK (dI 5 1) (aj 2))) (fz (j3 (bw (fA cR (fV 5 (fV 3 ai)))) (bw (f2 He (dI 5 2) (aj 3))))))) (jh 4 (aj 5)) (eG (bw (f2 Pz (dI 5 2) (aj 3))) (jh 4 (fA aV (af (dI 5 0) (fV 2 (af (dI 5 2) (fV 3 (af (dI 5 4) ai))))))) bp))
def BG:FS :=
  (aA (aQ 4 (fA bH ai))
  (aA (oS (cq (aj 0)) (dA 5) qF)
  (jO 4)))
def p4:=aN BG 4 2
def k8:FS :=
  (aA (aQ 3 (fA au (fV 1 (af (fS ("since" : Str)) ai))))
  (aA (aQ 4 (fA p4 (fV 0 (af (fA bH (af (fA au (fV 1 (af (fS ("office" : Str)) ai))) ai)) (af (fA au (fV 1 (af (fS ("by" : Str)) ai))) (fV 3 ai))))))
  (aZ (f2 bX (aj 4) (fA bH (af (fA gF (fV 1 (fV 3 (fV 2 ai)))) ai))))))
def ij:=aN k8 3 2
def gS:FS :=
  (aA (aQ 9 (F9 (aj 3) (fV 8 (fV 5 ai))))
  (eG (eE (bw (f2 lC (aj 9) (fC .non))) (bw (fA mG (fV 0 (fV 1 (fV 9 (fV 6 ai))))))) (jh 7 (fA aV (fV 8 (fV 9 (fV 6 (af (fC .non) (fV 4 ai))))))) bp))
def o5:FS :=
  (aA (aQ 5 (fA au (af (f2 bM (aj 0) (aj 4)) (af (fS ("person" : Str)) ai))))
  (aA (aQ 6 (fA aO (af (f2 bM (aj 0) (aj 4)) ai)))
  (aA (aQ 7 (fA bH ai))
  (aA (M5 [5,6] (oS (cq (f1 gA (bS (cq (aj 2)) 1 [5,6] (dA 0) (eE (bw (f2 dG (dI 0 1) (aj 1))) (bw (fA cR (fV 0 (fV 2 ai))))) (dI 0 0)))) (dA 8) gS))
  (jO 7)))))
def k9:=aN o5 5 5
def lu:FS :=
  (aA (aQ 5 (bS (cq (aj 2)) 1 [] (dA 0) gz (dI 0 0)))
  (aA (aQ 6 (fA p4 (fV 2 (fV 5 (af (fA au (af (f2 bM (aj 0) (aj 4)) (af (fS ("person" : Str)) ai))) (af (fA aO (af (f2 bM (aj 0) (aj 4)) ai)) ai))))))
  (aZ (f2 bX (aj 6) (fA k9 (fV 0 (fV 1 (fV 2 (fV 3 (fV 4 ai))))))))))
def iZ:=aN lu 5 2
def kW:FS :=
  (aA (aQ 5 (f2 bM (aj 0) (aj 4)))
  (aA (eG (fz (bw (fA mI (fV 0 (fV 1 (fV 2 (fV 4 ai))))))) K7 bp)
  (eG (bw (f2 dG (fA aK (fV 5 ai)) (fS ("named" : Str)))) (aQ 2 (f2 bX (aj 2) (fA bH (af (fA gF (fV 5 (af (fA aO (fV 5 ai)) (fV 4 ai)))) ai)))) (eG (bw (f2 dG (fA aK (fV 5 ai)) (fS ("chosen" : Str)))) (aQ 2 (fA ij (fV 2 (fV 5 (fV 4 ai))))) (eG (bw (f2 dG (fA aK (fV 5 ai)) (fS ("heir" : Str)))) (tK 3 (af (fA au (fV 5 (af (fS ("office" : Str)) ai))) (af (fA au (fV 5 (af (fS ("by" : Str)) ai))) ai)) (fA au (fV 5 (af (fS ("person" : Str)) ai)))) (aQ 2 (fA iZ (fV 0 (fV 1 (fV 2 (fV 3 (fV 4 ai))))))))))))
def y4:FS :=
  (aA (aQ 2 (fA bH ai))
  (aA (F3 3)
  (aA (oS (cq (fA dQ (fV 0 (fV 1 ai)))) (dA 4) kW)
  (aZ (qd (aj 2) (sn gE))))))
def kB:=aN y4 2 4
def qG:FS :=
  (aZ (j5 (fA cC (fV 0 (fV 1 (fV 2 ai)))) (f2 xE (fA aK (af (f2 bM (aj 0) (aj 2)) ai)) (fC yy))))
def fu:=aN qG 3 0
def qH:FS :=
  (aZ (j5 (fA cC (fV 0 (fV 1 (fV 2 ai)))) (f2 dG (fA aK (af (f2 bM (aj 0) (aj 2)) ai)) (fS ("leave" : Str)))))
def gf:=aN qH 3 0
def qI:FS :=
  (aZ (Hd (fA gf (fV 0 (fV 1 (fV 2 ai)))) (fA fu (fV 0 (fV 1 (fV 2 ai))))))
def dU:=aN qI 3 0
def qJ:FS :=
  (aZ (f2 dG (f2 Pq (aj 0) (aj 1)) (aj 1)))
def im:=aN qJ 2 0
def o6:FS :=
  (aA (eG (fz (bw (fA im (af (fA au (fV 1 (af (fS ("matters" : Str)) ai))) (af (fA au (fV 0 (af (fS ("matters" : Str)) ai))) ai))))) (aZ (fS ("matters" : Str))) bp)
  (aA (eG (eE (bw (f2 dG (fA aK (fV 0 ai)) (fS ("leave" : Str)))) (bw (f2 S2 (fA au (fV 0 (af (fS ("further" : Str)) ai))) (fA au (fV 1 (af (fS ("further" : Str)) ai)))))) (aZ (fS ("further" : Str))) bp)
  (aZ (fC .non))))
def iN:=aN o6 2 0
def mJ:FS :=
  (aA (eG (fz (bw (fA cL (fV 0 (fV 2 (af (fA au (fV 1 (af (fS ("by" : Str)) ai))) (af (fA aO (fV 1 ai)) ai))))))) (aZ (fS ("holder" : Str))) bp)
  (aZ (fA iN (fV 1 (fV 2 ai)))))
def gT:=aN mJ 3 0
def kE:FS :=
  (aA (aQ 4 (f2 bM (aj 0) (aj 3)))
  (aA (aQ 5 (bS (qp (fA gu (fV 0 (fV 1 ai)))) 1 [2,4] (dA 0) (bw (f2 DQ (fA gT (fV 1 (fV 2 (fV 0 ai)))) (fC .non))) (aj 0)))
  (aZ (bS (cq (aj 5)) 1 [2,4] (dA 0) gz (fA aV (af (fS ("office" : Str)) (af (fA au (fV 0 (af (fS ("office" : Str)) ai))) (af (f2 bM (fA dS (fV 1 (fV 0 (af (fA aO (fV 2 ai)) ai)))) (fI 2)) ai))))))))
def io:=aN kE 4 2
def lw:FS :=
  (aA (eG (bw (f2 DQ (aj 1) (fC .non))) (aZ (fC (.bl true))) bp)
  (aZ (j5 (f2 lC (aj 0) (fC .non)) (f2 wK (aj 0) (aj 1)))))
def ja:=aN lw 2 0
def o7:FS :=
  (aZ (j5 (f2 wK (dI 1 0) (dI 0 0)) (fA ja (af (dI 0 1) (af (dI 1 1) ai)))))
def iO:=aN o7 2 0
def qK:FS :=
  (aZ (f2 Lx (fA ft (fV 0 (fV 1 ai))) (fA ft (fV 0 (fV 2 ai)))))
def gg:=aN qK 3 0
def o8:FS :=
  (aA (aQ 3 (f2 bM (aj 0) (aj 1)))
  (aA (aQ 4 (fA au (af (f2 bM (aj 0) (aj 2)) (af (fS ("stretch" : Str)) ai))))
  (aA (eG (fz (bw (fA gg (fV 0 (fV 2 (fV 1 ai)))))) (aZ (fS ("order" : Str))) bp)
  (aA (eG (j3 (fz (bw (fA jq (af (fA aO (fV 3 ai)) (fV 4 ai))))) (fz (bw (fA iO (af (fA au (fV 3 (af (fS ("stretch" : Str)) ai))) (fV 4 ai)))))) (aZ (fS ("days" : Str))) bp)
  (aZ (fA iN (fV 3 (af (f2 bM (aj 0) (aj 2)) ai))))))))
def iP:=aN o8 3 2
def o9:FS :=
  (aA (aQ 3 (bS (cq (fA cF (fV 0 (fV 1 ai)))) 1 [0,1] (dA 0) (bw (fA gf (fV 1 (fV 2 (fV 0 ai))))) (aj 0)))
  (aZ (bS (cq (aj 3)) 1 [2,0] (dA 0) (bw (f2 dG (fA au (af (f2 bM (aj 2) (aj 0)) (af (fS ("person" : Str)) ai))) (aj 1))) (aj 0))))
def kF:=aN o9 3 1
def lx:FS :=
  (aA (aQ 3 (fA kF (fV 0 (fV 1 (af (fA au (af (f2 bM (aj 0) (aj 2)) (af (fS ("by" : Str)) ai))) ai)))))
  (aZ (bS (cq (aj 3)) 1 [0,2] (dA 0) (bw (f2 DQ (fA iP (fV 1 (fV 2 (fV 0 ai)))) (fC .non))) (fA aV (af (fS ("leave" : Str)) (fV 0 ai))))))
def jb:=aN lx 3 1
def mK:FS :=
  (aA (aQ 3 (fA au (af (f2 bM (aj 0) (aj 2)) (af (fS ("of" : Str)) ai))))
  (aA (eG (eE (bw (fA fu (fV 0 (fV 1 (fV 3 ai))))) (bw (fA gg (fV 0 (fV 3 (fV 2 ai)))))) (aZ (fA bH (af (fA aV (af (fS ("copy" : Str)) (fV 3 ai))) ai))) bp)
  (aZ (fA bH ai))))
def jE:=aN mK 3 1
def qL:FS :=
  (aA (eG (fz (bw (fA dU (fV 0 (fV 1 (fV 3 ai)))))) (aZ (fA bH ai)) bp)
  (aA (eG (bw (f2 dG (fA aK (af (f2 bM (aj 0) (aj 3)) ai)) (fS ("copy" : Str)))) (aZ (fA jE (fV 0 (fV 1 (fV 3 ai))))) bp)
  (aA (aQ 4 (f2 bX (fA io (fV 0 (fV 1 (fV 2 (fV 3 ai))))) (fA jb (fV 0 (fV 1 (fV 3 ai))))))
  (aZ (Au (aj 4) (qc [] (fA aV (af (f2 bM (aj 0) (f1 pF (fI 1))) (fV 0 ai)))))))))
def dW:=aN qL 4 1
def qM:FS :=
  (aA (aQ 5 (f2 bM (aj 0) (aj 4)))
  (aA (aQ 6 (fA au (af (f2 bM (aj 0) (aj 3)) (af (fS ("by" : Str)) ai))))
  (aA (eG (bw (f2 dG (aj 6) (fA au (fV 5 (af (fS ("by" : Str)) ai))))) (aZ (fC (.bl true))) bp)
  (aA (eG (bw (f2 dG (fA aK (fV 5 ai)) (fS ("copy" : Str)))) (aZ (fC (.bl false))) bp)
  (aA (aQ 7 (bS (qp (fA gu (fV 0 (fV 1 ai)))) 1 [5] (dA 0) (bw (fA im (af (fA au (fV 0 (af (fS ("matters" : Str)) ai))) (af (fA au (fV 1 (af (fS ("matters" : Str)) ai))) ai)))) (aj 0)))
  (aZ (fA zZ (af (bS (cq (aj 7)) 1 [2,6,0,3] (dA 0) gz (fA cL (fV 1 (fV 0 (fV 2 (af (fA aO (af (f2 bM (aj 3) (aj 4)) ai)) ai)))))) ai))))))))
def lN:=aN qM 5 3
def qN:FS :=
  (aA (aQ 6 (f2 bM (aj 0) (aj 3)))
  (aA (eG (j3 (bw (f2 CK (fA aK (fV 6 ai)) (fS ("call" : Str)))) (j3 (bw (f2 CK (fA au (fV 6 (af (fS ("of" : Str)) ai))) (aj 4))) (bw (f2 He (fA aO (fV 6 ai)) (aj 5))))) (aZ (fC (.bl false))) bp)
  (aZ (j5 (fA dR (fV 0 (fV 1 (fV 3 ai)))) (fA lN (fV 0 (fV 1 (fV 2 (fV 3 (fV 4 ai))))))))))
def jF:=aN qN 6 1
def qO:FS :=
  (aA (eG (fz (bw (fA dU (fV 0 (fV 1 (fV 3 ai)))))) (aZ (fA bH ai)) bp)
  (aZ (bS (cq (fA cF (fV 0 (fV 1 ai)))) 1 [0,1,2,3,4] (dA 0) (bw (fA jF (fV 1 (fV 2 (fV 3 (fV 0 (fV 4 (fV 5 ai)))))))) (aj 0))))
def jG:=aN qO 5 0
def y6:FS :=
  (aA (eG (j3 (fz (bw (fA dR (fV 0 (fV 1 (fV 3 ai)))))) (bw (f2 He (fA aO (af (f2 bM (aj 0) (aj 3)) ai)) (aj 4)))) (aZ (fC (.bl false))) bp)
  (aZ (f2 dG (fA hZ (af (fA jG (fV 0 (fV 1 (fV 2 (fV 3 (fV 4 ai)))))) ai)) (fI 0))))
def mL:=aN y6 5 0
def y7:FS :=
  (eG (eE (bw (fA dU (fV 0 (fV 1 (fV 5 ai))))) (bw (fA mL (fV 0 (fV 1 (fV 3 (fV 5 (fV 2 ai)))))))) (qt 4 (aj 5) (fA dW (fV 0 (fV 1 (fV 3 (fV 5 ai)))))) bp)
def BH:FS :=
  (aA (xi 3 (fA kB (fV 0 (fV 1 ai))))
  (aA (B1 4)
  (aA (oS (cq (fA dQ (fV 0 (fV 1 ai)))) (dA 5) y7)
  (jO 4))))
def wl:=aN BH 3 3
def BI:FS :=
  (aZ (Hd (f2 dG (dI 0 0) (fS ("office" : Str))) (f2 R0 (dI 0 1) (aj 1))))
def mM:=aN BI 2 0
def y8:FS :=
  (eG (bw (fA zZ (af (bS (cq (aj 3)) 1 [1] (dA 0) gz (fA mM (fV 0 (fV 1 ai)))) ai))) (yq 1 (aj 2) (fC (.bl true))) bp)
def BJ:FS :=
  (aA (B1 1)
  (aA (oS (B6 (aj 0)) (K2 [2,3]) y8)
  (jO 1)))
def wm:=aN BJ 1 3
def qP:FS :=
  (aZ (fA jp (af (fA wm (af (fA wl (fV 0 (fV 1 (fV 2 ai)))) ai)) ai)))
def jH:=aN qP 3 0
def y9:FS :=
  (aA (aQ 2 (fI 5))
  (aA (eG (bw (f2 He (fA hZ (fV 0 ai)) (fI 0))) (aQ 2 (f2 bM (aj 0) (f2 bI (aj 1) (fA hZ (fV 0 ai))))) bp)
  (aA (aQ 2 (f2 bI (f2 fJ (f2 bX (f2 bX (f2 bI (aj 2) (fI 2147483629)) (f2 fJ (fI 6151) (aj 1))) (fI 1)) (fI 48271)) (fI 2147483647)))
  (aZ (f2 bI (f2 fJ (aj 2) (f2 bX (f2 bX (f2 bI (aj 2) (fI 65519)) (aj 1)) (fI 2))) (fI 2147483629))))))
def cD:=aN y9 2 1
def lO:FS :=
  (aA (aQ 6 (fA iJ (fV 2 ai)))
  (aA (CU 6 (aj 3) (f2 bM (aj 1) (f2 bI (f2 bX (f2 cS (aj 0) (fI 64)) (f2 fJ (fI 3) (aj 5))) (fI 26))))
  (jh 4 (f2 oq (fS ("" : Str)) (aj 6)))))
def tS:FS :=
  (aA (aQ 1 (fS ("abcdefghijklmnopqrstuvwxyz" : Str)))
  (aA (aQ 2 (bS (fZ (f2 bX (fI 1) (f2 bI (aj 0) (fI 8)))) 1 [1,0] (dA 0) gz (f2 bM (aj 1) (f2 bI (f2 cS (aj 2) (f2 bX (fI 3) (f2 fJ (fI 4) (aj 0)))) (fI 26)))))
  (aA (aQ 3 (f2 bI (f2 cS (aj 0) (fI 8)) (fA hZ (fV 2 ai))))
  (aA (aQ 4 (fA bH ai))
  (aA (lm (fZ (fI 7)) (dA 5) lO)
  (aA (eG (bw (f2 dG (f2 bI (f2 cS (aj 0) (fI 1000)) (fI 8)) (fI 1))) (CU 4 (fI 5) (dI 4 0)) bp)
  (jO 4)))))))
def nL:=aN tS 1 6
def oA:FS :=
  (aA (aQ 3 (fA bH (af (fA aV (af (fI 0) (af (fC .non) ai))) (af (fA aV (fV 1 (af (fC .non) ai))) (af (fA aV (fV 1 (af (f2 bX (aj 1) (f2 fJ (fI 3) (aj 2))) ai))) (af (fA aV (af (fI 0) (af (f2 bX (aj 1) (f2 fJ (fI 2) (aj 2))) ai))) (af (fA aV (af (fI 0) (af (f2 fJ (fI 9) (aj 2)) ai))) ai)))))))
  (aA (aQ 3 (f2 bX (aj 3) (fA bH (af (fA aV (af (f2 bX (aj 1) (aj 2)) (af (f2 bX (aj 1) (f2 fJ (fI 4) (aj 2))) ai))) (af (fA aV (af (f2 cS (aj 1) (fI 2)) (af (f2 bX (aj 1) (f2 fJ (fI 6) (aj 2))) ai))) (af (fA aV (af (fI 0) (af (fC .non) ai))) ai))))))
  (aZ (f2 bM (aj 3) (f2 bI (aj 0) (fI 8))))))
def gG:=aN oA 3 1
def yA:FS :=
  (aA (aQ 7 (f2 bX (f2 bX (Dk (fA bH (af (fS ("leave" : Str)) ai)) (fI 5)) (Dk (fA bH (af (fS ("paper" : Str)) ai)) (fI 2))) (fA bH (af (fS ("like" : Str)) (af (fS ("copy" : Str)) (af (fS ("copy" : Str)) (af (fS ("call" : Str)) (af (fS ("call" : Str)) ai))))))))
  (aA (aQ 7 (f2 bX (aj 7) (fA bH (af (fS ("named" : Str)) (af (fS ("death" : Str)) (af (fS ("lost" : Str)) (af (fS ("found" : Str)) (af (fS ("chosen" : Str)) (af (fS ("heir" : Str)) ai)))))))))
  (aA (aQ 8 (f2 bM (aj 7) (f2 bI (aj 1) (fI 18))))
  (aA (aQ 9 (f2 bM (aj 5) (f2 zR (f1 pF (fI 1)) (f2 bI (f2 cS (aj 1) (fI 18)) (fA Io (af (fI 3) (af (fA hZ (fV 5 ai)) ai)))))))
  (aA (eG (bw (f2 dG (f2 bI (f2 cS (aj 1) (fI 54)) (fI 6)) (fI 1))) (aQ 9 (f2 bM (aj 3) (f2 bI (f2 cS (aj 1) (fI 324)) (fI 5)))) bp)
  (aA (aQ 10 (f2 bM (aj 3) (f2 bI (f2 cS (aj 1) (fI 1620)) (fI 5))))
  (aA (aQ 11 (fA Im (af (fI 0) (af (f2 zR (f2 zR (aj 0) (fI 1)) (f2 bI (aj 2) (fI 4))) ai))))
  (aA (eG (bw (f2 dG (f2 bI (f2 cS (aj 2) (fI 4)) (fI 8)) (fI 1))) (aQ 11 (f2 bI (f2 cS (aj 2) (fI 32)) (fI 60))) bp)
  (aA (eG (bw (f2 dG (aj 8) (fS ("leave" : Str)))) (aA (aQ 12 (f2 bM (fA bH (af (fI 3) (af (fI 1) (af (fI 7) (af (fI 2) (af (fI 255) (af (fI 5) (af (fI 1) (af (fI 3) ai))))))))) (f2 bI (f2 cS (aj 1) (fI 8100)) (fI 8))))
  (aA (aQ 13 (f2 bI (f2 cS (aj 2) (fI 256)) (f2 bM (fA bH (af (fI 5) (af (fI 5) (af (fI 5) (af (fI 10) ai))))) (f2 bI (f2 cS (aj 2) (fI 2560)) (fI 4)))))
  (aZ (fA aV (fV 8 (fV 4 (fV 9 (fV 10 (fV 12 (af (fA gG (af (f2 cS (aj 2) (fI 32)) (fV 4 (fV 6 ai)))) (fV 13 ai))))))))))) bp)
  (aA (eG (j3 (bw (f2 dG (aj 8) (fS ("paper" : Str)))) (bw (f2 dG (aj 8) (fS ("like" : Str))))) (aA (aQ 12 (f2 bM (fA bH (af (fI 1) (af (fI 1) (af (fI 3) (af (fI 2) (af (fI 4) (af (fI 5) (af (fI 128) (af (fI 7) ai))))))))) (f2 bI (f2 cS (aj 1) (fI 8100)) (fI 8))))
  (aA (aQ 14 (fA aV (fV 8 (fV 4 (fV 9 (fV 12 (af (fA gG (af (f2 cS (aj 2) (fI 32)) (fV 4 (fV 6 ai)))) (af (f2 bM (fA bH (af (fC .non) (fV 10 ai))) (f2 bI (f2 cS (aj 2) (fI 256)) (fI 2))) ai))))))))
  (aA (eG (bw (f2 dG (aj 8) (fS ("like" : Str)))) (aZ (f2 Bw (aj 14) (fA aV (fV 11 (af (fA aV (af (fA aV (af (fI 0) (fV 10 ai))) ai)) ai))))) bp)
  (aZ (f2 Bw (aj 14) (fA aV (af (fA aV (fV 10 ai)) ai))))))) bp)
  (aA (eG (bw (f2 xE (aj 8) (fA aV (af (fS ("copy" : Str)) (af (fS ("call" : Str)) ai))))) (aZ (fA aV (fV 8 (fV 4 (fV 9 (fV 11 ai)))))) bp)
  (aA (eG (bw (f2 dG (aj 8) (fS ("named" : Str)))) (aZ (fA aV (fV 8 (fV 4 (af (f2 bM (aj 3) (f2 bX (fI 5) (f2 bI (aj 2) (fI 2)))) (fV 10 ai)))))) bp)
  (aA (eG (bw (f2 dG (aj 8) (fS ("chosen" : Str)))) (aZ (fA aV (fV 8 (fV 4 (fV 9 (af (f2 bM (aj 3) (f2 bX (fI 5) (f2 bI (aj 2) (fI 2)))) (fV 10 (af (f2 bX (aj 4) (f2 fJ (f2 bI (f2 cS (aj 2) (fI 32)) (fI 3)) (aj 6))) ai)))))))) bp)
  (aA (eG (bw (f2 dG (aj 8) (fS ("heir" : Str)))) (aZ (fA aV (fV 8 (fV 4 (fV 9 (af (f2 bM (aj 3) (f2 bX (fI 5) (f2 bI (aj 2) (fI 2)))) (fV 10 ai))))))) bp)
  (aZ (fA aV (fV 8 (fV 4 (fV 9 ai)))))))))))))))))))
def qQ:=aN yA 7 8
def nM:FS :=
  (aA (aQ 8 (f2 bM (fA bH (af (fS ("open" : Str)) (af (fS ("first" : Str)) (af (fS ("last" : Str)) ai)))) (f2 bI (f2 cS (aj 4) (f2 bX (fI 64) (f2 fJ (fI 9) (aj 7)))) (fI 3))))
  (aA (aQ 9 (f2 bM (fA bH (af (fI 7) (af (fI 255) (af (fI 3) (af (fI 15) ai))))) (f2 bI (f2 cS (aj 4) (f2 bX (fI 2) (f2 fJ (fI 8) (aj 7)))) (fI 4))))
  (aA (aQ 10 (f2 fJ (f2 fJ (fA Ad (af (f2 dG (f2 bI (f2 cS (aj 4) (f2 bX (fI 512) (aj 7))) (fI 8)) (fI 1)) ai)) (fI 4)) (aj 2)))
  (aA (aQ 11 (f2 bI (f2 cS (aj 4) (f2 bX (fI 1024) (f2 fJ (fI 5) (aj 7)))) (f2 bM (fA bH (af (fI 5) (af (fI 5) (af (fI 10) ai)))) (f2 bI (f2 cS (aj 4) (f2 bX (fI 31) (aj 7))) (fI 3)))))
  (aA (jh 5 (fA aV (fV 10 (af (fA aV (af (fS ("root" : Str)) (af (f2 bM (aj 1) (f2 bX (fI 5) (aj 7))) (fV 9 (fV 11 (fV 8 ai)))))) ai))))
  (aA (jh 5 (fA aV (af (fI 0) (af (fA aV (af (fS ("named" : Str)) (af (fI 0) (af (f2 bM (aj 1) (f2 bX (fI 5) (aj 7))) (af (f2 bM (aj 1) (aj 7)) ai))))) ai))))
  (jh 6 (f2 bM (aj 1) (aj 7)))))))))
def nN:FS :=
  (aA (aQ 12 (fA cD (fV 0 (af (f2 bX (fI 5) (aj 7)) ai))))
  (aA (aQ 13 (f2 fJ (f2 bX (f2 cS (aj 7) (fI 2)) (f2 bI (f2 cS (aj 12) (fI 7)) (fI 3))) (aj 2)))
  (aA (aQ 14 (fA qQ (af (fA hZ (fV 5 ai)) (af (fA cD (fV 0 (af (f2 bX (fI 30) (aj 7)) ai))) (af (fA cD (fV 0 (af (f2 bX (fI 60) (aj 7)) ai))) (fV 1 (fV 13 (fV 6 (fV 2 ai)))))))))
  (aA (eG (bw (f2 xE (dI 14 0) (fA aV (af (fS ("leave" : Str)) (af (fS ("named" : Str)) ai))))) (jh 6 (dI 14 3)) bp)
  (aA (eG (bw (f2 dG (dI 14 0) (fS ("chosen" : Str)))) (jh 6 (dI 14 4)) bp)
  (jh 5 (fA aV (af (f2 bX (aj 13) (f2 fJ (f2 bM (fA bH (af (fI 0) (af (fI 0) (af (fI 0) (af (fI 0) (af (fI 1) (af (fI 4) ai))))))) (f2 bI (f2 cS (aj 12) (fI 21)) (fI 6))) (aj 2))) (fV 14 ai)))))))))
def yB:FS :=
  (aA (aQ 4 (fA cD (fV 0 (af (fI 1) ai))))
  (aA (aQ 5 (fA bH ai))
  (aA (aQ 6 (fA bH ai))
  (aA (lm (fZ (f2 bX (fI 1) (f2 bI (aj 4) (fI 2)))) (dA 7) nM)
  (aA (lm (fZ (f2 bX (fI 3) (f2 bI (fA cD (fV 0 (af (fI 2) ai))) (aj 3)))) (dA 7) nN)
  (aZ (fA g9 (fV 5 ai))))))))
def qR:=aN yB 4 11
def BK:FS :=
  (aZ (fA jG (fV 0 (fV 1 (af (fA kB (fV 0 (fV 1 ai))) (fV 2 (fV 3 ai)))))))
def p5:=aN BK 4 0
def BL:FS :=
  (aZ (fA dW (fV 0 (fV 1 (af (fA kB (fV 0 (fV 1 ai))) (fV 2 ai))))))
def kX:=aN BL 3 0
def yC:FS :=
  (aA (xK [5,6] (f2 bM (aj 0) (aj 4)))
  (eG (eE (bw (f2 wK (aj 5) (aj 1))) (eE (bw (f2 xE (dI 6 0) (fA aV (af (fS ("leave" : Str)) (af (fS ("paper" : Str)) (af (fS ("like" : Str)) (af (fS ("copy" : Str)) ai))))))) (bw (f2 wK (dI 6 1) (aj 2))))) (jh 3 (fA aV (af (dI 6 1) (fV 4 ai)))) bp))
def yD:FS :=
  (eG (eE (bw (fA dR (fV 0 (fV 1 (fV 4 ai))))) (bw (f2 dG (fA p5 (fV 0 (fV 1 (fV 4 (fV 2 ai))))) (fA bH ai)))) (eG (bw (fA zZ (af (bS (cq (fA kX (fV 0 (fV 1 (fV 4 ai))))) 1 [7] (dA 0) gz (Hd (f2 dG (dI 0 0) (fS ("office" : Str))) (f2 xE (f2 bM (aj 0) (f1 pF (fI 1))) (aj 1)))) ai))) (jh 7 (aj 4)) bp) bp)
def BM:FS :=
  (aA (aQ 3 (fA bH ai))
  (aA (lm (fZ (fA hZ (fV 0 ai))) (dA 4) yC)
  (aA (aQ 7 (fA bH ai))
  (aA (M5 [3] (oS (cq (fA eX (fV 3 ai))) (K2 [8,4]) yD))
  (aZ (fA eX (fV 7 ai)))))))
def wn:=aN BM 3 6
def Ax:FS :=
  (aA (aQ 10 (fA jH (fV 5 (fV 4 (fV 7 ai)))))
  (aA (eG (j3 (fz (bw (fA c9 (fV 10 (af (fC (.ty "list")) ai))))) (bw (f2 CK (aj 10) (aj 8)))) (aZ (fC (.bl false))) bp)
  (aA (eG (fz (bw (fA My (af (bS (cq (aj 10)) 1 [] (dA 0) gz (j5 (fA c9 (fV 0 (af (fC (.ty "int")) ai))) (zQ (fA c9 (fV 0 (af (fC (.ty "bool")) ai)))))) ai)))) (aZ (fC (.bl false))) bp)
  (jh 10 (fI 0)))))
def FQ:FS :=
  (aA (aQ 8 (fA wn (fV 3 (fV 4 (fV 7 ai)))))
  (lm (fZ (fI 2)) (dA 9) Ax))
def KG:FS :=
  (aA (aQ 1 (fA nL (af (fA cD (fV 0 (af (fI 0) ai))) ai)))
  (aA (aQ 2 (f2 bM (fA bH (af (fI 1) (af (fI 1) (af (fI 500) ai)))) (f2 bI (fA cD (fV 0 (af (fI 3) ai))) (fI 3))))
  (aA (aQ 3 (fA qR (fV 0 (fV 1 (fV 2 (af (fI 18) ai))))))
  (aA (aQ 4 (f2 bM (fA bH (af (fI 9999) (af (f2 fJ (f2 bI (f2 cS (fA cD (fV 0 (af (fI 3) ai))) (fI 3)) (fI 13)) (aj 2)) ai))) (f2 cS (f2 bI (fA cD (fV 0 (af (fI 4) ai))) (fI 3)) (fI 2))))
  (aA (aQ 5 (fA g9 (af (fA iJ (fV 3 ai)) ai)))
  (aA (aQ 6 (fA bH (af (f2 fJ (f2 bI (fA cD (fV 0 (af (fI 90) ai))) (fI 13)) (aj 2)) (af (f2 bX (f2 fJ (f2 bI (fA cD (fV 0 (af (fI 91) ai))) (fI 13)) (aj 2)) (f2 cS (aj 2) (fI 2))) (af (fI 9999) ai)))))
  (aA (M5 [6] (oS (cq (aj 6)) (dA 7) FQ))
  (aZ (f2 dG (aj 5) (aj 3))))))))))
def F_law:=aN KG 1 10
end Lw
namespace DL
open PySem L2
theorem jI:∀(n m:Nat)(d:D),n<=m->aq n d=true->aq m d=true
 |n,m,.non,_,_=>by simp
 |n,m,.bl _,_,_=>by simp
 |n,m,.int _,_,_=>by simp
 |n,m,.str _,_,_=>by simp
 |n,m,.ty _,_,h=>by cases n<;>simp[aq]at h
 |n,m,.dk _ _,_,h=>by simp at h
 |n,m,.dt _ _,_,h=>by simp at h
 |0,m,.tup _,_,h=>by simp[aq]at h
 |0,m,.lst _,_,h=>by simp[aq]at h
 |n+1,0,_,h,_=>by omega
 |n+1,m+1,.tup ds,hl,h=>by
  simp only[aq,List.all_eq_true]at h ⊢;exact λd hd=>jI n m d (by omega) (h d hd)
 |n+1,m+1,.lst ds,hl,h=>by
  simp only[aq,List.all_eq_true]at h ⊢;exact λd hd=>jI n m d (by omega) (h d hd)
theorem nO:∀(ds:List D),(∀d∈ds,bE d d=true)->dn ds ds=true
 |[],_=>by simp only[dn]
 |d::ds,h=>by
  simp only[dn,h d mX,Bool.true_and];exact nO ds λe he=>h e (mZ _ he)
theorem mN:∀(n:Nat)(d:D),aq n d=true->bE d d=true
 |n,.non,_=>by simp
 |n,.bl _,_=>by simp
 |n,.int _,_=>by simp
 |n,.str _,_=>by simp
 |n,.ty _,h=>by cases n<;>simp[aq]at h
 |n,.dk _ _,h=>by simp at h
 |n,.dt _ _,h=>by simp at h
 |0,.tup _,h=>by simp[aq]at h
 |0,.lst _,h=>by simp[aq]at h
 |n+1,.tup ds,h=>by
  simp only[aq,List.all_eq_true]at h;simp only[bE];exact nO ds λd hd=>mN n d (h d hd)
 |n+1,.lst ds,h=>by
  simp only[aq,List.all_eq_true]at h;simp only[bE];exact nO ds λd hd=>mN n d (h d hd)
theorem FR {d:D}(h:aq 40 d=true):dG d d=some (.bl true,false):=by unfold dG;rw[if_pos ⟨h,h⟩,mN 40 d h]
end DL
namespace DL
@[simp] noncomputable abbrev sF (d:D):Option (D×Bool):=some (d,false)
end DL
namespace Lw
open PySem DL L2
theorem Hh (d:D)(r:List D):oj (d::r) 0=some d:=by have:=k6 (xs:=d::r) (j:=0) (by simp);simpa using this
theorem Hi (d e:D)(r:List D):oj (d::e::r) 1=some e:=by have:=k6 (xs:=d::e::r) (j:=1) (by simp);simpa using this
theorem UU (d e f:D)(r:List D):oj (d::e::f::r) 2=some f:=by have:=k6 (xs:=d::e::f::r) (j:=2) (by simp);simpa using this
noncomputable def cU (k:Str):Bool:=decide (k=("death" : Str)) || decide (k=("lost" : Str)) || decide (k=("found" : Str))
noncomputable def dX (k:Str):Bool:=decide (k=("chosen" : Str)) || decide (k=("heir" : Str)) || decide (k=("leave" : Str)) || decide (k=("paper" : Str)) || decide (k=("like" : Str)) || decide (k=("copy" : Str)) || decide (k=("call" : Str))
structure DeedP (kind:Str)(aD:List D):Prop where
 flat:bz aD=true
 plain:aD.all (aq 5)=true
 three:cU kind=true->∃(day:Int)(p:Str),aD=[.int day,.str p]
 slg:dX kind=true->∃(day:Int)(p:Str)(r:List D),aD=.int day::.str p::r
noncomputable def row (h:Int)(kind:Str)(aD:List D):D:=.tup [.int h,.tup (.str kind::aD)]
def mO (r:D):Prop:=∃h kind aD,r=row h kind aD/\DeedP kind aD
theorem mO.flat (h:mO r):bv r=true:=by obtain⟨a,k,aD,rfl,dp⟩:=h;simp[row,dp.flat]
theorem mO.plain (h:mO r):aq 39 r=true:=by
 obtain⟨a,k,aD,rfl,dp⟩:=h;refine jI 7 39 _ (by decide) ?_;have:=dp.plain;simp only[row,aq,List.all_cons,List.all_nil,Bool.and_true,Bool.true_and];exact this
theorem bY (h:∀d∈ds,bv d=true):bz ds=true:=by
 induction ds with
 |nil=>rfl
 |cons d r ih=>simp[h d (by simp),ih λe he=>h e (by simp[he])]
theorem dY (zs:List Str):bz (zs.map D.str)=true:=by
 induction zs with
 |nil=>rfl
 |cons a l ih=>simp[ih]
theorem IX (h:∀r∈ab,mO r):dG (.tup ab) (.tup ab)=sF (.bl true):=by
 refine FR ?_;simp only[aq,List.all_eq_true];exact λr hr=>(h r hr).plain
noncomputable def bc:D->Int
 |.tup (.int h::_)=>h
 |_=>0
noncomputable def kindOf:D->Str
 |.tup [_,.tup (.str k::_)]=>k
 |_=>("" : Str)
noncomputable def a9:D->Int
 |.tup [_,.tup (_::.int d::_)]=>d
 |_=>0
noncomputable def tT (p:Str)(day:Int):List D->Bool
 |[.int d,.str q]=>decide (q=p) && decide (d<=day)
 |_=>false
def told (ws:List Str)(p:Str)(day:Int):D->Bool
 |.tup [_,.tup (.str kind::aD)]=>decide (kind∈ws) && tT p day aD
 |_=>false
theorem iQ (h:Int)(kind:Str)(aD:List D):aK [row h kind aD]=sF (.str kind):=aw rfl (az (by simp[row,Hi,Hh]))
theorem kG (h:cU k=true):k=("death" : Str)∨k=("lost" : Str)∨k=("found" : Str):=by
 unfold cU at h;simp only[Bool.or_eq_true,decide_eq_true_eq]at h;rcases h with (h|h)|h
 ·exact .inl h
 ·exact .inr (.inl h)
 ·exact .inr (.inr h)
theorem lP (h:dX k=true):k=("chosen" : Str)∨k=("heir" : Str)∨k=("leave" : Str)∨k=("paper" : Str)∨k=("like" : Str)∨k=("copy" : Str)∨k=("call" : Str):=by
 unfold dX at h;simp only[Bool.or_eq_true,decide_eq_true_eq]at h;rcases h with (((((h|h)|h)|h)|h)|h)|h
 ·exact .inl h
 ·exact .inr (.inl h)
 ·exact .inr (.inr (.inl h))
 ·exact .inr (.inr (.inr (.inl h)))
 ·exact .inr (.inr (.inr (.inr (.inl h))))
 ·exact .inr (.inr (.inr (.inr (.inr (.inl h)))))
 ·exact .inr (.inr (.inr (.inr (.inr (.inr h)))))
theorem IY (h:cU k=true∨dX k=true):oW gR (.str k) (.str "day")=sF (.int 0):=by
 rcases h with h|h
 ·rcases kG h with rfl|rfl|rfl<;>exact bi (by decide +kernel)
 ·rcases lP h with rfl|rfl|rfl|rfl|rfl|rfl|rfl<;>exact bi (by decide +kernel)
theorem Ay (h:cU k=true):oW gR (.str k) (.str "person")=sF (.int 1):=by
 rcases kG h with rfl|rfl|rfl<;>exact bi (by decide +kernel)
theorem FU (h:cU k=true∨dX k=true):dG (.str k) (.str "root")=sF (.bl false):=by
 rcases h with h|h
 ·rcases kG h with rfl|rfl|rfl<;>exact bi (by decide +kernel)
 ·rcases lP h with rfl|rfl|rfl|rfl|rfl|rfl|rfl<;>exact bi (by decide +kernel)
theorem br {h:Int}{k:Str}{aD:List D}{part:Str}{i:Nat}{d:D}(hi:oW gR (.str k) (.str part)=sF (.int i))(hd:aD[i]? = some d):au [row h k aD,.str part]=some (d,false):=by
 refine aw rfl (az ?_);refine bD (.tup (.str k::aD)) (.int (1+i)) (by simp[row,Hi]) (bD (.int 1) (.int i) rfl (bD (.str k) (.str part) (aJ [row h k aD] rfl (iQ _ _ _)) rfl hi) (by simp)) ?_;have fR:i<aD.length:=(vV hd).1;have:oj (.str k::aD) (1+(i:Int))=some d:=by
  have:=k6 (xs:=(.str k:D)::aD) (j:=i+1) (by simp;omega);rw[show(1+(i:Int))=((i+1:Nat):Int) by omega,this];simp only[List.getElem_cons_succ];rw[vU fR]at hd;exact hd
 simp[this]
theorem js {h:Int}{k:Str}{aD:List D}{d:Int}{r:List D}(hk:cU k=true∨dX k=true)(hr:aD=.int d::r):aO [row h k aD]=sF (.int d):=by
 subst hr;refine aw rfl (aC (de (bD (.str k) (.str "root") (aJ [row h k (.int d::r)] rfl (iQ _ _ _)) rfl (FU hk))) (az (aJ [row h k (.int d::r),.str "day"] rfl (br (i:=0) (IY hk) rfl))))
theorem qS (k:Str)(ws:List Str):Hf (.str k) (ws.map .str)=decide (k∈ws):=by
 induction ws with
 |nil=>simp[Hf]
 |cons w ws ih=>
  have:Hf (.str k) ((w::ws).map .str)=(bE (.str w) (.str k) || Hf (.str k) (ws.map .str)):=rfl;rw[this,ih,om];by_cases e:w=k
  ·simp[e]
  ·have e':¬k=w:=λz=>e z.symm;simp[e,e']
theorem nQ (ws:List Str):(ws.map D.str).all g7=true:=by
 induction ws with
 |nil=>rfl
 |cons w ws ih=>simp[g7]
theorem iq (k:Str)(ws:List Str):xE (.str k) (.tup (ws.map .str))=sF (.bl (decide (k∈ws))):=by
 simp only[xE,gN,vJ,qS];rw[if_pos ⟨rfl,nQ ws⟩]
theorem FV (hr:mO r)(ws:List Str)(hw:∀w∈ws,cU w=true)(p:Str)(day:Int):pz [r,.tup (ws.map .str),.str p,.int day]=sF (.bl (told ws p day r)):=by
 obtain⟨h,kind,aD,rfl,dp⟩:=hr;have DV:f2 xE (fA aK (fV 0 ai)) (aj 1) [some (row h kind aD,false),sF (.tup (ws.map .str)),sF (.str p),sF (.int day)]=sF (.bl (decide (kind∈ws))) :=
  bD (.str kind) (.tup (ws.map .str)) (aJ [row h kind aD] rfl (iQ _ _ _)) rfl (iq kind ws)
 have ht:told ws p day (row h kind aD)=(decide (kind∈ws) && tT p day aD):=rfl;rw[ht];refine aw rfl (az (dB (b1:=false) DV λhk=>?_));have h3:=hw kind (of_decide_eq_true hk);obtain⟨d,q,rfl⟩:=dp.three h3;show j5 _ _ _=sF (.bl (decide (q=p) && decide (d<=day)));refine dB (b1:=false) ?_ λ_=>?_
 ·exact bD (.str q) (.str p) (aJ [row h kind [.int d,.str q],.str "person"] rfl (br (i:=1) (Ay h3) rfl)) rfl (by simp)
 ·exact bD (.int d) (.int day) (aJ [row h kind [.int d,.str q]] rfl (js (.inl h3) rfl)) rfl (by simp)
theorem FW (ds:List D):sW ds=ds.zipIdx.map λx=>.tup [.int x.2,x.1]:=by
 unfold sW;apply List.ext_getElem?;intro i;simp[List.getElem?_mapIdx,List.getElem?_zipIdx];cases ds[i]?<;>simp
noncomputable def ak (ab:List D)(aa:Int):List (D×Nat):=ab.zipIdx.filter λx=>decide (bc x.1<=aa)
theorem kH (ab:List D)(hr:∀r∈ab,mO r)(hl:ab.length<=1000)(aa:Int):cF [.tup ab,.int aa]=some (.lst ((ak ab aa).map λx=>.int x.2),true):=by
 have hc:=iM (fi:=Fc (aj 0)) (nT:=2) (cap:=[1]) (tg:=K2 [0,1]) (c:=bw (f2 wK (dI 1 0) (aj 2))) (fe:=aj 0) (ρ:=[sF (.tup ab),sF (.int aa)]) ab.zipIdx (λx=>.tup [.int x.2,x.1]) (λx=>decide (bc x.1<=aa)) (λx=>.int x.2)
  (by simp[FW]) (by simp;omega) λx hx=>by
   obtain⟨h,kind,aD,e,_⟩:=hr x.1 (List.fst_mem_of_mem_zipIdx hx);refine⟨_,rfl,de ?_,λ_=>⟨false,by simp[cA]⟩⟩;simp[cA,e,row,Hh,bc]
 exact aw rfl (az hc)
def oZ (ab:List D)(aa:Int)(ws:List Str)(p:Str)(day:Int):List (D×Nat):=(ak ab aa).filter λx=>told ws p day x.1
theorem BN (h:x∈oZ ab aa ws p day):ab[x.2]? = some x.1/\told ws p day x.1=true:=by
 obtain⟨h1,h2⟩:=vN h;exact⟨(List.mk_mem_zipIdx_iff_getElem? (x:=x.1) (i:=x.2)).mp (vN h1).1,h2⟩
theorem cE {ab:List D}{i:Nat}{r:D}(h:ab[i]? = some r):oj ab (i:Int)=some r:=by
 obtain⟨fR,e⟩:=vV h;rw[k6 fR,e]
theorem IZ (ab:List D)(aa:Int)(ws:List Str)(p:Str)(day:Int):(oZ ab aa ws p day).length<=ab.length:=by
 have h1:=vM (λx:D×Nat=>told ws p day x.1) (ak ab aa);have h2:=vM (λx:D×Nat=>decide (bc x.1<=aa)) ab.zipIdx;rw[List.length_zipIdx]at h2;exact vR h1 h2
theorem wo (ab:List D)(hr:∀r∈ab,mO r)(hl:ab.length<=1000)(aa:Int)(ws:List Str)(hw:∀w∈ws,cU w=true)(p:Str)(day:Int):
  hU [.tup ab,.int aa,.tup (ws.map .str),.str p,.int day]=some (.lst ((oZ ab aa ws p day).map λx=>.int x.2),true):=by
 have hc:=iM (fi:=cq (fA cF (fV 0 (fV 1 ai)))) (nT:=1) (cap:=[2,3,4,0]) (tg:=dA 0) (c:=bw (fA pz (af (f2 bM (aj 4) (aj 0)) (fV 1 (fV 2 (fV 3 ai)))))) (fe:=aj 0)
  (ρ:=[sF (.tup ab),sF (.int aa),sF (.tup (ws.map .str)),sF (.str p),sF (.int day)]) (ak ab aa) (λx=>.int x.2) (λx=>told ws p day x.1) (λx=>.int x.2)
  (by
   show(fA cF (fV 0 (fV 1 ai)) _).bind _=_;rw[aJ [.tup ab,.int aa] rfl (kH ab hr hl aa)];rfl) (by have:=vM (λx:D×Nat=>decide (bc x.1<=aa)) ab.zipIdx;rw[List.length_zipIdx]at this;exact vR this (by omega)) λx hx=>by
   have hg:ab[x.2]? = some x.1:=(List.mk_mem_zipIdx_iff_getElem? (x:=x.1) (i:=x.2)).mp (vN hx).1;refine⟨_,rfl,de (aJ [x.1,.tup (ws.map .str),.str p,.int day] ?_ (FV (hr _ (vL hg)) ws hw p day)),λ_=>⟨false,by simp[cA]⟩⟩;have ha:=cE hg;simp[cA,ha]
 exact aw rfl (az hc)
def kA (x:D×Nat):List At:=[.i (a9 x.1),.i x.2]
def fP (a b:D×Nat):Bool:=decide (a9 a.1<a9 b.1∨(a9 a.1=a9 b.1/\(a.2:Int)<b.2))
def gL:D×Nat->List (D×Nat)->D×Nat
 |b,[]=>b
 |b,x::r=>if fP b x=true then gL x r else gL b r
def KH:List (D×Nat)->Option (D×Nat)
 |[]=>none
 |x::r=>some (gL x r)
theorem MU (a b c d:Int):aY [.i a,.i b] [.i c,.i d]=some (decide (a<c∨(a=c/\b<d))):=by
 rw[aY];by_cases h:a=c
 ·rw[if_pos h,aY];by_cases h2:b=d
  ·rw[if_pos h2,aY];simp[h,h2]
  ·rw[if_neg h2];simp[h]
 ·rw[if_neg h];simp[h]
theorem Az (a b:D×Nat):aY (kA a) (kA b)=some (fP a b):=MU _ _ _ _
theorem p6 (l:List (D×Nat)):di (l.map kA)=true:=by
 unfold di;simp[List.all_eq_true,Az]
theorem nR:∀(r:List (D×Nat))(b:D×Nat),mB (kA b,.int b.2) (r.map λx=>(kA x,D.int x.2))=.int (gL b r).2
 |[],b=>rfl
 |x::r,b=>by
  rw[uY,mB,gL];show(if aY (kA b) (kA x)=some true then _ else _)=_;rw[Az];by_cases h:fP b x=true
  ·rw[if_pos h,if_pos (by rw[h])];exact nR r x
  ·rw[if_neg h,if_neg (by simpa using h)];exact nR r b
theorem qT:∀(r:List (D×Nat))(b:D×Nat),gL b r∈b::r
 |[],b=>by simp[gL]
 |x::r,b=>by
  rw[gL];split
  ·exact mZ _ (qT r x)
  ·rcases vP (qT r b)with h|h
   ·rw[h];exact mX
   ·exact mZ _ (mZ _ h)
theorem ir {α:Type}{f:D->Option D}{g h:α->D}:∀(l:List α),(∀x∈l,f (g x)=some (h x))->jB f (l.map g)=some (l.map h)
 |[],_=>rfl
 |x::l,hx=>by
  rw[uY,jB,hx x mX,vJ,ir l λy hy=>hx y (mZ _ hy)];rfl
theorem gh {α:Type}{g:α->D}{h:α->List At}:∀(l:List α),(∀x∈l,m5 (g x)=some (h x))->dj (l.map g)=some (l.map h)
 |[],_=>rfl
 |x::l,hx=>by
  rw[uY,dj,hx x mX,vJ,gh l λy hy=>hx y (mZ _ hy)];rfl
noncomputable def mP:List Str:=[("lost" : Str),("found" : Str)]
theorem oB:∀w∈mP,cU w=true:=by
 intro w hw;rcases vP hw with rfl|hw
 ·decide +kernel
 ·rcases vP hw with rfl|hw
  ·decide +kernel
  ·cases hw
def yE (ab:List D)(aa:Int)(p:Str)(day:Int):Bool:=match KH (oZ ab aa mP p day) with
 |none=>true
 |some b=>decide (kindOf b.1=("found" : Str))
theorem qU (hw:∀w∈ws,cU w=true)(hr:mO r)(ht:told ws p day r=true):∃h k d,r=row h k [.int d,.str p]/\cU k=true/\k∈ws/\d<=day:=by
 obtain⟨h,kind,aD,rfl,dp⟩:=hr;have Q1:(decide (kind∈ws) && tT p day aD)=true:=ht;rw[vC]at Q1;have hm:=of_decide_eq_true Q1.1;obtain⟨d,q,rfl⟩:=dp.three (hw _ hm);have hq:(decide (q=p) && decide (d<=day))=true:=Q1.2;rw[vC]at hq;have:=of_decide_eq_true hq.1;subst this;exact⟨h,kind,d,rfl,hw _ hm,hm,of_decide_eq_true hq.2⟩
theorem BO {ab:List D}{i:Nat}{h d:Int}{k p:Str}(hg:ab[i]? = some (row h k [.int d,.str p]))(h3:cU k=true):ft [.tup ab,.int i]=sF (.tup [.int d,.int i]):=by
 have ha:=cE hg;refine aw rfl (az (aJ [.int d,.int i] (aF (d:=.int d) (b:=false) (aJ [row h k [.int d,.str p]] (by simp[ha]) (js (.inl h3) rfl)) rfl) (by simp[sizeLine])))
theorem Ja (ab:List D)(hr:∀r∈ab,mO r)(hl:ab.length<=1000)(aa:Int)(p:Str)(day:Int):lL [.tup ab,.int aa,.str p,.int day]=sF (.bl (yE ab aa p day)):=by
 have ht:=wo ab hr hl aa mP oB p day;have TU:=IZ ab aa mP p day;have key:∀x∈oZ ab aa mP p day,∃h k d,ab[x.2]? = some (row h k [.int d,.str p])/\x.1=row h k [.int d,.str p]/\cU k=true:=λx hx=>by
  obtain⟨hg,Uo⟩:=BN hx;obtain⟨h,k,d,e,h3,_⟩:=qU oB (hr _ (vL hg)) Uo;exact⟨h,k,d,by rw[hg,e],e,h3⟩
 unfold yE;generalize hsel:oZ ab aa mP p day=sel at ht key TU ⊢;have JQ:fA hU (fV 0 (fV 1 (af (fA aV (af (fS ("lost" : Str)) (af (fS ("found" : Str)) ai))) (fV 2 (fV 3 ai))))) [sF (.tup ab),sF (.int aa),sF (.str p),sF (.int day),none]=some (.lst (sel.map λx=>.int x.2),true) :=
  aJ [.tup ab,.int aa,.tup (mP.map .str),.str p,.int day] (by simp[mP,sizeLine]) ht
 have RU:bz (sel.map λx=>D.int x.2)=true:=bY λd hd=>by obtain⟨x,_,rfl⟩:=vO hd;rfl
 cases sel with
 |nil=>exact aw rfl (cx JQ RU (bF (de (by simp)) (az rfl)))
 |cons x r=>
  refine aw rfl (cx JQ RU (aC (de (by simp;omega)) (az ?_)));obtain⟨h,k,d,hg,e,h3⟩:=key (gL x r) (qT r x);have hb:kindOf (gL x r).1=k:=by rw[e];rfl
  show _=some (D.bl (decide (kindOf (gL x r).1=("found" : Str))),false);rw[hb];refine bD (.str k) (.str "found") (aJ [row h k [.int d,.str p]] (aF (d:=row h k [.int d,.str p]) (b:=false) (bD (.tup ab) (.int (gL x r).2) rfl ?_ (by simp[cE hg])) rfl) (iQ _ _ _)) rfl (by simp);have hm:∀ρ:DL.Env,ρ[0]? = some (sF (.tup ab))->jB (qc [0] (fA ft (fV 1 (fV 0 ai))) ρ) ((x::r).map λx=>D.int x.2)=some ((x::r).map λx=>.tup [.int (a9 x.1),.int x.2]):=λρ h0=>
   ir (x::r) λy hy=>by
    obtain⟨h,k,d,hg,e,h3⟩:=key y hy;have hd:a9 y.1=d:=by rw[e];rfl
    rw[hd];show(fA ft _ _).map _=_;rw[aJ [.tup ab,.int y.2] (by simp[cA,h0]) (BO hg h3)];rfl
  have hk:dj ((x::r).map λx=>D.tup [.int (a9 x.1),.int x.2])=some ((x::r).map kA):=gh (x::r) λy _=>rfl;have hz:((x::r).map kA).zip ((x::r).map λx=>D.int x.2)=(kA x,.int x.2)::r.map λx=>(kA x,D.int x.2):=by
   rw[List.zip_map'];rfl
  show(tG (aj 4) _ _)=_;unfold tG ME;show((some (D.lst ((x::r).map λx=>D.int x.2),false)).bind _)=_;simp only[vJ];rw[hm _ rfl];simp only[vJ];rw[hk];simp only[vJ];rw[if_pos (p6 _),hz];simp only[nR]
noncomputable def dZ:List Str:=[("death" : Str)]
theorem jJ:∀w∈dZ,cU w=true:=by
 intro w hw;rcases vP hw with rfl|hw
 ·decide +kernel
 ·cases hw
def nS (ab:List D)(aa:Int)(p:Str)(day:Int):Bool:=(oZ ab aa dZ p day).isEmpty
theorem yF (ab:List D)(hr:∀r∈ab,mO r)(hl:ab.length<=1000)(aa:Int)(p:Str)(day:Int):mG [.tup ab,.int aa,.str p,.int day]=sF (.bl (nS ab aa p day)):=by
 have ht:=wo ab hr hl aa dZ jJ p day;unfold nS;generalize oZ ab aa dZ p day=sel at ht ⊢;refine aw rfl (az (bD (.int ((sel.map λx=>D.int x.2).length:Nat)) (.int 0) ?_ rfl ?_))
 ·exact aJ [.lst (sel.map λx=>.int x.2)] (aF (d:=.lst (sel.map λx=>.int x.2)) (b:=true) (aJ [.tup ab,.int aa,.tup (dZ.map .str),.str p,.int day] (by simp[sizeLine,dZ]) ht) rfl) IW
 ·rw[BB];cases sel<;>simp
  omega
noncomputable def cZ:D->Str
 |.tup [_,.tup (_::_::.str p::_)]=>p
 |_=>("" : Str)
noncomputable def yG:List Str:=[("chosen" : Str),("heir" : Str),("leave" : Str),("paper" : Str),("like" : Str),("copy" : Str),("call" : Str)]
theorem qV (k:Str):dX k=decide (k∈yG):=by
 unfold dX yG;simp[List.mem_cons,Bool.or_assoc]
theorem A0:ig=.tup (yG.map .str):=rfl
theorem oC (k:Str)(ws:List Str):ia (.str k) (.tup (ws.map .str))=sF (.bl (!decide (k∈ws))):=by
 simp only[ia,gN,vJ,qS];rw[if_pos ⟨rfl,nQ ws⟩]
theorem FX (h:dX k=true):oW gR (.str k) (.str "by")=sF (.int 1):=by
 rcases lP h with rfl|rfl|rfl|rfl|rfl|rfl|rfl<;>exact bi (by decide +kernel)
def eJ (ab:List D)(aa:Int)(r:D):Bool:=(decide (bc r<=aa) && dX (kindOf r)) && (nS ab aa (cZ r) (a9 r) && yE ab aa (cZ r) (a9 r))
theorem kI {ab:List D}{i:Nat}{h:Int}{kind:Str}{aD:List D}(hg:ab[i]? = some (row h kind aD))(aa:Int):cC [.tup ab,.int aa,.int i]=sF (.bl (decide (h<=aa))):=by
 have fR:i<ab.length:=(vV hg).1;have ha:=cE hg;refine aw rfl (az ?_);have:=dB (f1:=nz wK Pz (fI 0) (aj 2) (fA hZ (fV 0 ai))) (f2:=f2 wK (f2 bM (f2 bM (aj 0) (aj 2)) (fI 0)) (aj 1)) (ρ:=[sF (.tup ab),sF (.int aa),sF (.int i)]) (p:=true) (q:=decide (h<=aa)) (b1:=false)
  (by
   refine(yx (x:=.int 0) (y:=.int i) (z:=.int ab.length) (b1:=false) (b2:=false) (b3:=false) (b4:=false) (p:=true) (q:=true) rfl rfl (by simp) (by simp) λ_=>?_).trans rfl;simp;omega) λ_=>by simp[ha,row,Hh]
 exact this
theorem mQ (ab:List D)(hr:∀r∈ab,mO r)(hl:ab.length<=1000)(aa:Int){i:Nat}{r:D}(hg:ab[i]? = some r):dR [.tup ab,.int aa,.int i]=sF (.bl (eJ ab aa r)):=by
 obtain⟨h,kind,aD,rfl,dp⟩:=hr r (vL hg);have hk:=kI hg aa;have ha:=cE hg;have QT:∀(ρ:DL.Env),f2 bM (aj 0) (aj 2) ρ=some (row h kind aD,false)->fA aK (af (f2 bM (aj 0) (aj 2)) ai) ρ=sF (.str kind):=λρ e=>aJ [row h kind aD] (aF e rfl) (iQ _ _ _);have GR:f2 bM (aj 0) (aj 2) [sF (.tup ab),sF (.int aa),sF (.int i),none,none]=some (row h kind aD,false):=by simp[ha]
 have hc:(j3 (fz (bw (fA cC (fV 0 (fV 1 (fV 2 ai)))))) (bw (f2 ia (fA aK (af (f2 bM (aj 0) (aj 2)) ai)) (fC ig)))) [sF (.tup ab),sF (.int aa),sF (.int i),none,none]=some (!decide (h<=aa) || !dX kind):=by
  refine cY (cn (de (aJ [.tup ab,.int aa,.int i] rfl hk))) λ_=>de (bD (.str kind) ig (QT _ GR) rfl ?_);rw[A0,qV];exact oC kind yG
 have hs:eJ ab aa (row h kind aD)=((decide (h<=aa) && dX kind) && (nS ab aa (cZ (row h kind aD)) (a9 (row h kind aD)) && yE ab aa (cZ (row h kind aD)) (a9 (row h kind aD)))):=rfl;cases hb:(decide (h<=aa) && dX kind) with
 |false=>
  rw[hs,hb];refine aw rfl (bF (hc.trans ?_) (az rfl));rw[←Bool.not_and,hb];rfl
 |true=>
  rw[hs,hb];rw[vC]at hb;obtain⟨day,p,r',rfl⟩:=dp.slg hb.2;show _=some (D.bl (true && (nS ab aa p day && yE ab aa p day)),false);rw[Bool.true_and];refine aw rfl (aC (hc.trans (by rw[hb.1,hb.2];rfl)) (gd (.str p) (aJ [row h kind (.int day::.str p::r'),.str "by"] (aF GR rfl) (br (i:=1) (FX hb.2) rfl)) rfl (gd (.int day) (aJ [row h kind (.int day::.str p::r')] (aF (d:=row h kind (.int day::.str p::r')) (b:=false) (by simp[ha]) rfl) (js (.inr hb.2) rfl)) rfl (az ?_))));exact dB (b1:=false) (aJ [.tup ab,.int aa,.str p,.int day] (by simp) (yF ab hr hl aa p day)) λ_=>aJ [.tup ab,.int aa,.str p,.int day] (by simp) (Ja ab hr hl aa p day)
inductive Cd:Str->List D->Prop
 |root (o r:Str) (m f:Int):Cd ("root" : Str) [.str o,.int m,.int f,.str r]
 |named (d:Int) (o p:Str):Cd ("named" : Str) [.int d,.str o,.str p]
 |chosen (d:Int) (b o p:Str) (s:Int):Cd ("chosen" : Str) [.int d,.str b,.str o,.str p,.int s]
 |heir (d:Int) (b o p:Str):Cd ("heir" : Str) [.int d,.str b,.str o,.str p]
 |three (k:Str) (hk:k=("death" : Str)∨k=("lost" : Str)∨k=("found" : Str)) (d:Int) (p:Str):Cd k [.int d,.str p]
 |other (k:Str) (hk:k=("leave" : Str)∨k=("paper" : Str)∨k=("like" : Str)∨k=("copy" : Str)∨k=("call" : Str)) (d:Int) (b:Str) (r:List D) (hf:bz r=true) (hp:r.all (aq 5)=true):Cd k (.int d::.str b::r)
theorem Cd.deed (h:Cd k r):DeedP k r:=by
 cases h with
 |root o rl m f=>exact⟨rfl,by simp,λh=>absurd h (by decide +kernel),λh=>absurd h (by decide +kernel)⟩
 |named d o p=>exact⟨rfl,by simp,λh=>absurd h (by decide +kernel),λh=>absurd h (by decide +kernel)⟩
 |chosen d b o p s=>exact⟨rfl,by simp,λh=>absurd h (by decide +kernel),λ_=>⟨d,b,_,rfl⟩⟩
 |heir d b o p=>exact⟨rfl,by simp,λh=>absurd h (by decide +kernel),λ_=>⟨d,b,_,rfl⟩⟩
 |three k hk d p=>exact⟨rfl,by simp,λ_=>⟨d,p,rfl⟩,λh=>by rcases hk with rfl|rfl|rfl<;>exact absurd h (by decide +kernel)⟩
 |other k hk d b r hf hp=>exact⟨by simp[hf],by simp only[List.all_cons,hp,aq,Bool.and_true],λh=>by rcases hk with rfl|rfl|rfl|rfl|rfl<;>exact absurd h (by decide +kernel),λ_=>⟨d,b,r,rfl⟩⟩
def wq (r:D):Prop:=∃h k aD,r=row h k aD/\Cd k aD
theorem wq.rp (h:wq r):mO r:=by obtain⟨a,k,aD,rfl,d⟩:=h;exact⟨a,k,aD,rfl,d.deed⟩
def bd (r:D):Bool:=decide (kindOf r=("root" : Str))
theorem Cd.day (h:Cd k r)(hk:k≠("root" : Str)):∃d q,r=.int d::q:=by
 cases h with
 |root=>exact absurd rfl hk
 |named d=>exact⟨d,_,rfl⟩
 |chosen d=>exact⟨d,_,rfl⟩
 |heir d=>exact⟨d,_,rfl⟩
 |three _ _ d=>exact⟨d,_,rfl⟩
 |other _ _ d=>exact⟨d,_,rfl⟩
theorem Cd.day_idx (h:Cd k r)(hk:k≠("root" : Str)):oW gR (.str k) (.str "day")=sF (.int 0):=by
 cases h with
 |root=>exact absurd rfl hk
 |named=>exact bi (by decide +kernel)
 |chosen=>exact bi (by decide +kernel)
 |heir=>exact bi (by decide +kernel)
 |three _ hh=>rcases hh with rfl|rfl|rfl<;>exact bi (by decide +kernel)
 |other _ hh=>rcases hh with rfl|rfl|rfl|rfl|rfl<;>exact bi (by decide +kernel)
theorem bR (e:f ρ=some (.str a,bb))(h:decide (a=b)=x):bw (f2 dG f (fS b)) ρ=some x:=de (iY (x:=.str a) (y:=.str b) (b1:=bb) (b2:=false) e rfl (by rw[←h];simp))
def sr (r:D):D:=if bd r=true then .non else .int (a9 r)
theorem jc (g:wq r):aK [r]=sF (.str (kindOf r)):=by
 obtain⟨h,k,aD,rfl,_⟩:=g;exact iQ h k aD
theorem qW (g:wq r):aO [r]=some (sr r,false):=by
 obtain⟨h,k,aD,rfl,d⟩:=g;unfold sr;by_cases hk:k=("root" : Str)
 ·have:bd (row h k aD)=true:=decide_eq_true hk;rw[if_pos this];exact aw rfl (bF (bR (a:=k) (bb:=false) (aJ [row h k aD] rfl (iQ _ _ _)) (decide_eq_true hk)) (az rfl))
 ·have:bd (row h k aD)=false:=decide_eq_false hk;rw[if_neg (by rw[this];decide)];obtain⟨dd,q,rfl⟩:=d.day hk;exact aw rfl (aC (bR (a:=k) (bb:=false) (aJ [row h k (.int dd::q)] rfl (iQ _ _ _)) (decide_eq_false hk)) (az (aJ [row h k (.int dd::q),.str "day"] rfl (br (i:=0) (d.day_idx hk) rfl))))
def fQ (ab:List D):Prop:=ab.length<=60/\∀r∈ab,wq r
theorem fQ.rp (g:fQ ab):∀r∈ab,mO r:=λr hr=>(g.2 r hr).rp
theorem fQ.le (g:fQ ab):ab.length<=1000:=vR g.1 (by decide)
theorem b7 (h:x∈ak ab aa):ab[x.2]? = some x.1:=by
 obtain⟨h1,_⟩:=vN h;exact List.mem_zipIdx_iff_getElem?.mp h1
theorem cu (ab:List D)(aa:Int):(ak ab aa).length<=ab.length:=by
 have:=vM (λx:D×Nat=>decide (bc x.1<=aa)) ab.zipIdx;rw[List.length_zipIdx]at this;exact this
theorem eD (ab:List D)(aa:Int):((ak ab aa).map (·.2)).Nodup:=by
 have h1:(ab.zipIdx.map (·.2)).Nodup:=by rw[List.zipIdx_map_snd];exact List.nodup_range'
 exact List.Nodup.sublist (List.Sublist.map _ (List.filter_sublist)) h1
def da (ab:List D)(aa:Int):List (D×Nat):=(ak ab aa).filter λx=>!bd x.1
def PX (ab:List D)(aa:Int):List (D×Nat):=dw (λx=>cw (kA x)) (da ab aa)
theorem A1 (h:cw (kA a)=cw (kA b)):a.2=b.2:=by
 have h:[a9 a.1,(a.2:Int)]=[a9 b.1,(b.2:Int)]:=h;injection h with _ h;injection h with h;omega
theorem Jb (ha:a∈ak ab aa)(hb:b∈ak ab aa)(h:a.2=b.2):a=b:=by
 have h1:=b7 ha;have h2:=b7 hb;rw[h,h2]at h1;exact Prod.ext (vK h1).symm h
theorem oD (g:fQ ab)(aa:Int):dQ [.tup ab,.int aa]=some (.lst ((PX ab aa).map λx=>.int x.2),true):=by
 have hl:=g.1;have QR:=cu ab aa;have GR:∀x∈ak ab aa,oj ab (x.2:Int)=some x.1/\wq x.1:=λx hx=>⟨cE (b7 hx),g.2 _ (vL (b7 hx))⟩;have hc:=iM (fi:=cq (fA cF (fV 0 (fV 1 ai)))) (nT:=1) (cap:=[0]) (tg:=dA 0) (c:=bw (f2 lC (fA aO (af (f2 bM (aj 1) (aj 0)) ai)) (fC .non))) (fe:=aj 0) (ρ:=[sF (.tup ab),sF (.int aa),none]) (ak ab aa) (λx=>.int x.2) (λx=>!bd x.1) (λx=>.int x.2)
  (by
   show(fA cF (fV 0 (fV 1 ai)) _).bind _=_;rw[aJ [.tup ab,.int aa] rfl (kH ab g.rp g.le aa)];rfl) (by omega) λx hx=>by
   obtain⟨ha,gx⟩:=GR x hx;refine⟨_,rfl,de (bD (sr x.1) .non (aJ [x.1] (by simp[cA,ha]) (qW gx)) rfl ?_),λ_=>⟨false,by simp[cA]⟩⟩;unfold sr;cases bd x.1<;>simp[CM]
 have Jx:bS (cq (fA cF (fV 0 (fV 1 ai)))) 1 [0] (dA 0) (bw (f2 lC (fA aO (af (f2 bM (aj 1) (aj 0)) ai)) (fC .non))) (aj 0) [sF (.tup ab),sF (.int aa),none]=some (.lst ((da ab aa).map λx=>.int x.2),true):=hc;have z7:bz ((da ab aa).map λx=>D.int x.2)=true:=bY λd hd=>by obtain⟨x,_,rfl⟩:=vO hd;rfl
 have Hk:(da ab aa).length<=60:=vR (vM _ _) (by omega);have lg:∀x∈da ab aa,x∈ak ab aa/\bd x.1=false:=λx hx=>by
  obtain⟨h1,h2⟩:=vN hx;exact⟨h1,by simpa using h2⟩
 have hm:∀ρ:DL.Env,ρ[0]? = some (sF (.tup ab))->jB (qc [0] (fA ft (fV 1 (fV 0 ai))) ρ) ((da ab aa).map λx=>.int x.2)=some ((da ab aa).map λx=>.tup [.int (a9 x.1),.int x.2]):=λρ h0=>
  ir (da ab aa) λx hx=>by
   obtain⟨h1,h2⟩:=lg x hx;obtain⟨ha,gx⟩:=GR x h1;have hd:=qW gx;unfold sr at hd;rw[h2,if_neg (by decide)]at hd;have hr:ft [.tup ab,.int x.2]=sF (.tup [.int (a9 x.1),.int x.2]):=aw rfl (az (aJ [.int (a9 x.1),.int x.2] (aF (d:=.int (a9 x.1)) (b:=false) (aJ [x.1] (by simp[ha]) hd) rfl) (by simp[sizeLine])));show(fA ft _ _).map _=_;rw[aJ [.tup ab,.int x.2] (by simp[cA,h0]) hr];rfl
 have hk:dj ((da ab aa).map λx=>D.tup [.int (a9 x.1),.int x.2])=some ((da ab aa).map kA):=gh _ λx _=>rfl;have hz:((da ab aa).map kA).zip ((da ab aa).map λx=>D.int x.2)=(da ab aa).map λx=>(kA x,D.int x.2):=by rw[List.zip_map']
 have JR:((da ab aa).map (·.2)).Nodup:=List.Nodup.sublist (List.Sublist.map _ (List.filter_sublist)) (eD ab aa);have jy:((da ab aa).map kA).length<64/\di ((da ab aa).map kA)=true/\cW ((da ab aa).map kA)=true/\(((da ab aa).map kA).map cw).Nodup:=by
  refine⟨by rw[vI];omega,p6 _,?_,?_⟩
  ·unfold cW;rw[Bool.or_eq_true];left;simp[List.all_eq_true,kA]
  ·rw[uP];exact List.Pairwise.map _ (λa b h e=>h (A1 e)) (List.pairwise_map.mp JR)
 refine aw rfl (cx Jx z7 (az ?_));show(qd (aj 2) _ _)=_;unfold qd;show((some (D.lst ((da ab aa).map λx=>D.int x.2),false)).bind _)=_;simp only[vJ];rw[hm _ rfl];simp only[vJ];rw[hk];simp only[vJ];rw[if_pos jy];unfold jn;rw[hz];have key:((PX ab aa).map λx=>(kA x,D.int x.2))=dw (λp:List At×D=>cw p.1) ((da ab aa).map λx=>(kA x,D.int x.2)):=by
  refine ib _ (λx hx y hy e=>?_) ((b9 _ _).map _) ?_
  ·obtain⟨a,ha,rfl⟩:=vO hx;obtain⟨b,hb,rfl⟩:=vO hy;rw[Jb (lg a ha).1 (lg b hb).1 (A1 e)]
  ·exact List.pairwise_map.mpr (ga _ _)
 rw[←key,uP];rfl
structure Cl where
 o:Str
 p:Str
 s:Int
 u:Option Int
 n:Nat
noncomputable def uD:Option Int->D
 |none=>.non
 |some x=>.int x
def aR (c:Cl):D:=.tup [.str c.o,.str c.p,.int c.s,uD c.u,.int c.n]
theorem BP (u:Option Int):bv (uD u)=true:=by cases u<;>rfl
theorem mR (c:Cl):bv (aR c)=true:=by simp[aR,BP]
theorem jt (cs:List Cl):bz (cs.map aR)=true:=bY λd hd=>by obtain⟨c,_,rfl⟩:=vO hd;exact mR c
noncomputable def iu (c:Cl)(day:Int):Bool:=decide (c.s<=day) && (match c.u with|none=>true|some x=>decide (day<x))
theorem WA (d e f g:D)(r:List D):oj (d::e::f::g::r) 3=some g:=by have:=k6 (xs:=d::e::f::g::r) (j:=3) (by simp);simpa using this
theorem WB (d e f g h:D)(r:List D):oj (d::e::f::g::h::r) 4=some h:=by have:=k6 (xs:=d::e::f::g::h::r) (j:=4) (by simp);simpa using this
theorem PY (c:Cl):bM (aR c) (.int 0)=sF (.str c.o):=by simp[aR,Hh]
theorem Oc (c:Cl):bM (aR c) (.int 1)=sF (.str c.p):=by simp[aR,Hi]
theorem R5 (c:Cl):bM (aR c) (.int 2)=sF (.int c.s):=by simp[aR,UU]
theorem WC (c:Cl):bM (aR c) (.int 3)=some (uD c.u,false):=by simp[aR,WA]
theorem R6 (c:Cl):bM (aR c) (.int 4)=sF (.int c.n):=by simp[aR,WB]
theorem cy (ds:List D)(h:ds.length<=100):aV ds=sF (.tup ds):=if_pos (dP (by omega))
theorem gk (ds:List D)(h:ds.length<=100):bH ds=some (.lst ds,true):=if_pos (dP (by omega))
theorem BQ (s day:Int)(u:Option Int):jq [.int day,.tup [.int s,uD u]]=sF (.bl (decide (s<=day) && (match u with|none=>true|some x=>decide (day<x)))):=by
 refine aw rfl (az (dB (b1:=false) (by simp[Hh]) λ_=>?_));cases u with
 |none=>exact mE (p:=true) (q:=true) (b1:=false) (by simp[Hi,uD]) (by simp)
 |some x=>exact mE (p:=false) (q:=decide (day<x)) (b1:=false) (by simp[Hi,uD]) λ_=>by simp[Hi,uD]
theorem qX (c:Cl)(day:Int):cR [aR c,.int day]=sF (.bl (iu c day)) :=
 aw rfl (az (aJ [.int day,.tup [.int c.s,uD c.u]] (cj rfl (cj (aJ [.int c.s,uD c.u] (aF (bD (aR c) (.int 2) rfl rfl (R5 c)) (aF (bD (aR c) (.int 3) rfl rfl (WC c)) rfl)) (cy _ (by simp))) rfl)) (BQ c.s day c.u)))
theorem yH (c:Cl):dr [aR c]=sF (.tup [.int c.s,.int c.n]) :=
 aw rfl (az (aJ [.int c.s,.int c.n] (aF (bD (aR c) (.int 2) rfl rfl (R5 c)) (aF (bD (aR c) (.int 4) rfl rfl (R6 c)) rfl)) (cy _ (by simp))))
theorem wt (c:Cl):gE [aR c]=sF (.tup [.str c.o,.int c.s,.int c.n]) :=
 aw rfl (az (aJ [.str c.o,.int c.s,.int c.n] (aF (bD (aR c) (.int 0) rfl rfl (PY c)) (aF (bD (aR c) (.int 2) rfl rfl (R5 c)) (aF (bD (aR c) (.int 4) rfl rfl (R6 c)) rfl))) (cy _ (by simp))))
noncomputable def kS (c:Cl):List At:=[.i c.s,.i c.n]
def mS:Cl->List Cl->Cl
 |b,[]=>b
 |b,x::r=>if aY (kS x) (kS b)=some true then mS x r else mS b r
def su:Cl->List Cl->Cl
 |b,[]=>b
 |b,x::r=>if aY (kS b) (kS x)=some true then su x r else su b r
theorem qY:∀(r:List Cl)(b:Cl),ls (kS b,aR b) (r.map λx=>(kS x,aR x))=aR (mS b r)
 |[],b=>rfl
 |x::r,b=>by
  rw[uY,ls,mS];split
  ·exact qY r x
  ·exact qY r b
theorem qZ:∀(r:List Cl)(b:Cl),mB (kS b,aR b) (r.map λx=>(kS x,aR x))=aR (su b r)
 |[],b=>rfl
 |x::r,b=>by
  rw[uY,mB,su];split
  ·exact qZ r x
  ·exact qZ r b
theorem BR (cs:List Cl):di (cs.map kS)=true:=by
 unfold di;simp[List.all_eq_true,kS,MU]
theorem re (ρ:DL.Env)(cs:List Cl):jB (sn dr ρ) (cs.map aR)=some (cs.map λc=>.tup [.int c.s,.int c.n]):=ir cs λc _=>by
 show(dr [aR c]).map _=_;rw[yH];rfl
theorem oE (cs:List Cl):dj (cs.map λc=>D.tup [.int c.s,.int c.n])=some (cs.map kS):=gh cs λc _=>rfl
theorem FY (e:f ρ=some (.lst ((b::r).map aR),bb)):tH f (sn dr) ρ=some (aR (mS b r),false):=by
 unfold tH ME;rw[e,vJ];dsimp only;rw[re,vJ,oE,vJ,if_pos (BR _)];have:((b::r).map kS).zip ((b::r).map aR)=(kS b,aR b)::r.map λx=>(kS x,aR x):=by rw[List.zip_map'];rfl
 rw[this];show some (ls _ _,false)=_;rw[qY]
theorem MV (e:f ρ=some (.lst ((b::r).map aR),bb)):tG f (sn dr) ρ=some (aR (su b r),false):=by
 unfold tG ME;rw[e,vJ];dsimp only;rw[re,vJ,oE,vJ,if_pos (BR _)];have:((b::r).map kS).zip ((b::r).map aR)=(kS b,aR b)::r.map λx=>(kS x,aR x):=by rw[List.zip_map'];rfl
 rw[this];show some (mB _ _,false)=_;rw[qZ]
def iw (rl:Str)(b:Cl)(r:List Cl):Cl:=if rl=("last" : Str)then su b r else mS b r
theorem FZ (rl:Str)(b:Cl)(r:List Cl):lM [.lst ((b::r).map aR),.str rl]=sF (.str (iw rl b r).p):=by
 unfold iw;by_cases h:rl=("last" : Str)
 ·rw[if_pos h];exact aw rfl (bF (bR (a:=rl) (bb:=false) rfl (decide_eq_true h)) (az (bD (aR (su b r)) (.int 1) (MV (bb:=false) rfl) rfl (Oc _))))
 ·rw[if_neg h];exact aw rfl (aC (bR (a:=rl) (bb:=false) rfl (decide_eq_false h)) (az (bD (aR (mS b r)) (.int 1) (FY (bb:=false) rfl) rfl (Oc _))))
theorem rf:∀(r:List Cl)(b:Cl),mS b r∈b::r
 |[],b=>by simp[mS]
 |x::r,b=>by
  rw[mS];split
  ·exact mZ _ (rf r x)
  ·rcases vP (rf r b)with h|h
   ·rw[h];exact mX
   ·exact mZ _ (mZ _ h)
theorem rg:∀(r:List Cl)(b:Cl),su b r∈b::r
 |[],b=>by simp[su]
 |x::r,b=>by
  rw[su];split
  ·exact mZ _ (rg r x)
  ·rcases vP (rg r b)with h|h
   ·rw[h];exact mX
   ·exact mZ _ (mZ _ h)
theorem Dt (rl:Str)(b:Cl)(r:List Cl):iw rl b r∈b::r:=by
 unfold iw;split
 ·exact rg r b
 ·exact rf r b
noncomputable def Od (cs:List Cl)(o:Str)(day:Int):List Cl:=cs.filter λc=>decide (c.o=o) && iu c day
def lQ (cs:List Cl):List Str:=kn (iH (cs.map (·.p)))
def PZ:List Cl->Nat
 |[]=>0
 |b::r=>(mS b r).n
def oF (rl:Str):List Cl->D
 |[]=>.tup [.str "none"]
 |b::r=>if 1<(lQ (b::r)).length/\rl=("open" : Str)then .tup [.str "parted",.lst ((lQ (b::r)).map .str)]
  else .tup [.str "one",.str (iw rl b r).p,.int (PZ ((b::r).filter λc=>decide (c.p=(iw rl b r).p)))]
def jR (cs:List Cl)(o rl:Str)(day:Int):D:=oF rl (Od cs o day)
theorem Jc:iH (z::zs)≠[]:=by
 have:∀(ss:List Str)(ts:List Str),z∈ts->z∈ss.foldl jT ts:=λss=>by
  induction ss with
  |nil=>intro ts h;exact h
  |cons a l ih=>intro ts h;exact ih _ (xQ.mpr (.inl h))
 have h:=this zs (jT [] z) (xQ.mpr (.inr rfl));intro e;unfold iH at e;rw[List.foldl_cons]at e;rw[e]at h;cases h
theorem kJ:au [row h ("root" : Str) [.str o,.int m,.int f,.str rl],.str "office"]=sF (.str o):=br (i:=0) (bi (by decide +kernel)) rfl
theorem Du:au [row h ("root" : Str) [.str o,.int m,.int f,.str rl],.str "rule"]=sF (.str rl):=br (i:=3) (bi (by decide +kernel)) rfl
theorem rh (zs:List Str):fN (zs.map .str)=some zs:=by
 induction zs with
 |nil=>rfl
 |cons z zs ih=>simp[ih]
theorem mT (cs:List Cl)(hl:cs.length<=60)(day:Int):dS [.lst (cs.map aR),row h ("root" : Str) [.str o,.int m,.int f,.str rl],.int day]=some (jR cs o rl day,false):=by
 let rt:D:=row h ("root" : Str) [.str o,.int m,.int f,.str rl];have h1:=iM (fi:=cq (aj 0)) (nT:=1) (cap:=[2,1]) (tg:=dA 0) (c:=eE (bw (f2 dG (dI 0 0) (fA au (fV 2 (af (fS ("office" : Str)) ai))))) (bw (fA cR (fV 0 (fV 1 ai))))) (fe:=aj 0)
  (ρ:=[sF (.lst (cs.map aR)),some (rt,false),sF (.int day),none,none,none,none]) cs aR (λc=>decide (c.o=o) && iu c day) aR (by simp) (by omega) λc hc=>by
   refine⟨_,rfl,dF (de (bD (.str c.o) (.str o) (bD (aR c) (.int 0) (by simp[cA]) rfl (PY c)) (aJ [rt,.str "office"] (by simp[cA]) kJ) (by simp))) λ_=>de (aJ [aR c,.int day] (by simp[cA]) (qX c day)),λ_=>⟨false,by simp[cA]⟩⟩
 have RC:bS (cq (aj 0)) 1 [2,1] (dA 0) (eE (bw (f2 dG (dI 0 0) (fA au (fV 2 (af (fS ("office" : Str)) ai))))) (bw (fA cR (fV 0 (fV 1 ai))))) (aj 0) [sF (.lst (cs.map aR)),some (rt,false),sF (.int day),none,none,none,none]=some (.lst ((Od cs o day).map aR),true):=h1;have RV:(Od cs o day).length<=60:=vR (vM _ _) hl;unfold jR;generalize Od cs o day=al at RC RV;have h2:∀ρ:DL.Env,ρ[3]? = some (some (.lst (al.map aR),true))->f1 gA (bS (cq (aj 3)) 1 [] (dA 0) gz (dI 0 1)) ρ=some (.lst ((lQ al).map .str),true):=λρ h3=>by
  have hc:=mF (fi:=cq (aj 3)) (nT:=1) (cap:=[]) (tg:=dA 0) (fe:=dI 0 1) (ρ:=ρ) al aR (λc=>.str c.p) (by simp[h3]) (by omega) λc hc=>⟨_,rfl,false,bD (aR c) (.int 1) (by simp[cA]) rfl (Oc c)⟩;have e2:al.map (λc=>D.str c.p)=(al.map (·.p)).map .str:=by rw[uP];rfl
  rw[e2]at hc;unfold f1;rw[hc,vJ];show(fN ((al.map (·.p)).map .str)).bind _=_;rw[rh,vJ,if_pos (by rw[vI];omega)];rfl
 have lz:bz ((lQ al).map D.str)=true:=dY _;refine aw rfl (cx (ds:=al.map aR) RC (jt al) (cx (ds:=(lQ al).map .str) (h2 _ rfl) lz ?_));cases al with
 |nil=>exact bF (de (by simp[lQ,iH,kn])) (az (aJ [.str "none"] rfl (cy _ (by simp))))
 |cons b r=>
  have oM:(lQ (b::r)).length≠0:=by
   unfold lQ;rw[(fg _).length_eq];intro e;exact Jc (List.length_eq_zero_iff.mp e)
  refine aC (de (by simp[oM])) ?_;have GS:∀ρ:DL.Env,ρ[1]? = some (some (rt,false))->fA au (fV 1 (af (fS ("rule" : Str)) ai)) ρ=sF (.str rl):=λρ q1=>aJ [rt,.str "rule"] (by simp[q1]) Du;by_cases hp:1<(lQ (b::r)).length/\rl=("open" : Str)
  ·have:oF rl (b::r)=.tup [.str "parted",.lst ((lQ (b::r)).map .str)]:=by rw[oF,if_pos hp]
   rw[this];exact bF (dF (p:=true) (q:=true) (de (by simp;omega)) λ_=>bR (bb:=false) (GS _ rfl) (decide_eq_true hp.2)) (az (aJ [.str "parted",.lst ((lQ (b::r)).map .str)] (by simp) (cy _ (by simp))))
  ·have:oF rl (b::r)=.tup [.str "one",.str (iw rl b r).p,.int (PZ ((b::r).filter λc=>decide (c.p=(iw rl b r).p)))]:=by rw[oF,if_neg hp]
   rw[this];have jy:eE (bw (f2 He (fA hZ (fV 4 ai)) (fI 1))) (bw (f2 dG (fA au (fV 1 (af (fS ("rule" : Str)) ai))) (fS ("open" : Str)))) [sF (.lst (cs.map aR)),some (rt,false),sF (.int day),some (.lst ((b::r).map aR),true),some (.lst ((lQ (b::r)).map .str),true),none,none]=some false:=by
    by_cases h5:1<(lQ (b::r)).length
    ·exact dF (p:=true) (q:=false) (de (by simp;omega)) λ_=>bR (bb:=false) (GS _ rfl) (decide_eq_false λe=>hp ⟨h5,e⟩)
    ·exact dF (p:=false) (q:=false) (de (by simp;omega)) (by simp)
   have lg:=Dt rl b r;let ch:=iw rl b r;have h6:=iM (fi:=cq (aj 3)) (nT:=1) (cap:=[5]) (tg:=dA 0) (c:=bw (f2 dG (dI 0 1) (aj 1))) (fe:=aj 0) (ρ:=[sF (.lst (cs.map aR)),some (rt,false),sF (.int day),some (.lst ((b::r).map aR),true),some (.lst ((lQ (b::r)).map .str),true),sF (.str ch.p),none]) (b::r) aR (λc=>decide (c.p=ch.p)) aR (by simp) (by omega) λc hc=>⟨_,rfl,de (bD (.str c.p) (.str ch.p) (bD (aR c) (.int 1) (by simp[cA]) rfl (Oc c)) (by simp[cA]) (by simp)),λ_=>⟨false,by simp[cA]⟩⟩;obtain⟨b2,r2,hf⟩:∃b2 r2,(b::r).filter (λc=>decide (c.p=ch.p))=b2::r2:=by
    cases hq:(b::r).filter (λc=>decide (c.p=ch.p)) with
    |nil=>
     have:=List.filter_eq_nil_iff.mp hq _ lg;simp[ch]at this
    |cons b2 r2=>exact⟨b2,r2,rfl⟩
   rw[hf]at h6 ⊢;refine aC jy (gd (.str ch.p) (aJ [.lst ((b::r).map aR),.str rl] (cj (by simp) (aF (GS _ rfl) rfl)) (FZ rl b r)) rfl (gd (aR (mS b2 r2)) (FY (bb:=true) h6) (mR _) (az (aJ [.str "one",.str ch.p,.int (mS b2 r2).n] (cj rfl (cj rfl (aF (bD (aR (mS b2 r2)) (.int 4) rfl rfl (R6 _)) rfl))) (cy _ (by simp))))))
def KI:D->D
 |.tup ds=>.tup (sg ds none (some 2))
 |d=>d
def iR (cs:List Cl)(o rl p:Str)(day:Int):Bool:=bE (KI (jR cs o rl day)) (.tup [.str "one",.str p])
theorem A2 (n:Nat)(zs:List Str):(zs.map D.str).all (aq n)=true:=by
 induction zs with
 |nil=>rfl
 |cons a l ih=>simp
theorem Dv (rl:Str)(al:List Cl):∃ds,oF rl al=.tup ds/\ds.all (aq 5)=true:=by
 cases al with
 |nil=>exact⟨_,rfl,by simp⟩
 |cons b r=>
  rw[oF];split
  ·exact⟨_,rfl,by simp only[List.all_cons,List.all_nil,aq,Bool.and_true,Bool.true_and];exact A2 _ _⟩
  ·exact⟨_,rfl,by simp⟩
theorem Ga (h:ds.all (aq 5)=true):(sg ds lo hi).all (aq 5)=true:=by
 rw[List.all_eq_true]at h ⊢;exact λd hd=>h d (List.mem_of_mem_drop (List.mem_of_mem_take hd))
theorem tU (h:ds.all (aq 5)=true):aq 40 (.tup ds)=true:=jI 6 40 _ (by decide) (by simpa only[aq]using h)
theorem wu (cs:List Cl)(hl:cs.length<=60)(p:Str)(day:Int):cL [.lst (cs.map aR),row h ("root" : Str) [.str o,.int m,.int f,.str rl],.str p,.int day]=sF (.bl (iR cs o rl p day)):=by
 have hb:=mT cs hl (h:=h) (o:=o) (rl:=rl) (m:=m) (f:=f) day;obtain⟨ds,e,hd⟩:=Dv rl (Od cs o day);have e':jR cs o rl day=.tup ds:=e;refine aw rfl (az (bD (KI (jR cs o rl day)) (.tup [.str "one",.str p]) ?_ (by simp[sizeLine]) ?_))
 ·have hc:=B9 (F:=dS) (fa:=fV 0 (fV 1 (fV 3 ai))) (ρ:=[sF (.lst (cs.map aR)),some (row h ("root" : Str) [.str o,.int m,.int f,.str rl],false),sF (.str p),sF (.int day)]) (ds:=[.lst (cs.map aR),row h ("root" : Str) [.str o,.int m,.int f,.str rl],.int day]) rfl hb;rw[e']at hc ⊢;show Rw (fA dS (fV 0 (fV 1 (fV 3 ai)))) ED (Ba (fI 2)) _=_;unfold Rw;rw[show(List.map (λd=>some (d,false)) [D.lst (cs.map aR),row h ("root" : Str) [.str o,.int m,.int f,.str rl],.str p,.int day]++List.replicate 0 none:DL.Env)=[sF (.lst (cs.map aR)),some (row h ("root" : Str) [.str o,.int m,.int f,.str rl],false),sF (.str p),sF (.int day)]from rfl,hc];rfl
 ·unfold iR dG;rw[if_pos];rw[e'];exact⟨tU (Ga hd),tU (by simp)⟩
noncomputable def a7 (j:Nat):D->Str
 |.tup [_,.tup (_::aD)]=>match aD[j]? with
  |some (.str s)=>s
  |_=>("" : Str)
 |_=>("" : Str)
noncomputable def iz (j:Nat):D->Int
 |.tup [_,.tup (_::aD)]=>match aD[j]? with
  |some (.int s)=>s
  |_=>0
 |_=>0
theorem Cd.root_of (h:Cd ("root" : Str) r):∃o rl,∃m f:Int,r=[.str o,.int m,.int f,.str rl]:=by
 generalize hk:("root" : Str)=k at h;cases h with
 |root o rl m f=>exact⟨o,rl,m,f,rfl⟩
 |named=>exact absurd hk (by decide +kernel)
 |chosen=>exact absurd hk (by decide +kernel)
 |heir=>exact absurd hk (by decide +kernel)
 |three _ hh=>rcases hh with rfl|rfl|rfl<;>exact absurd hk (by decide +kernel)
 |other _ hh=>rcases hh with rfl|rfl|rfl|rfl|rfl<;>exact absurd hk (by decide +kernel)
theorem tV {κ α:Type}[DecidableEq κ]{ks:List κ}{k:κ}{x y:α}:∀ {xs:List α},y∈dE ks xs k x->y=x∨y∈xs:=by
 intro xs h;unfold dE at h;split at h
 ·rename_i RQ;clear RQ;induction ks generalizing xs with
  |nil=>simp at h
  |cons a ks ih=>
   cases xs with
   |nil=>simp at h
   |cons b xs=>
    rw[List.zipWith_cons_cons,List.mem_cons]at h;rcases h with h|h
    ·split at h
     ·exact .inl h
     ·exact .inr (by rw[h];exact mX)
    ·rcases ih h with h|h
     ·exact .inl h
     ·exact .inr (mZ _ h)
 ·rcases List.mem_append.mp h with h|h
  ·exact .inr h
  ·exact .inl (uT h)
theorem tW:∀(l:List (c8×D))(a:List c8×List D)(y:D),y∈(l.foldl qj a).2->y∈a.2∨∃p∈l,p.2=y
 |[],a,y,h=>.inl h
 |p::l,a,y,h=>by
  rw[List.foldl_cons]at h;rcases tW l _ y h with h|⟨q,hq,e⟩
  ·rcases tV (show y∈dE a.1 a.2 p.1 p.2 from h)with h|h
   ·exact .inr ⟨p,mX,h.symm⟩
   ·exact .inl h
  ·exact .inr ⟨q,mZ _ hq,e⟩
theorem tX {α:Type}(f:α->Str)(g:α->D):∀(l:List α),iX (l.map λx=>D.tup [.str (f x),g x])=some (l.map λx=>(.inr (f x),g x))
 |[]=>rfl
 |x::l=>by
  rw[uY,iX,tX f g l];rfl
theorem rj {κ:Type}[DecidableEq κ]:∀ {ks:List κ}{vs:List D}{k:κ}{v:D},cH ks vs k=some v->v∈vs
 |k'::ks,d::ds,k,v,h=>by
  unfold cH at h;split at h
  ·cases h;exact mX
  ·exact mZ _ (rj h)
 |[],_,_,_,h=>by simp[cH]at h
 |_::_,[],_,_,h=>by simp[cH]at h
noncomputable def mU (KL:List (D×Nat)):List (c8×D):=(KL.filter λx=>bd x.1).map λx=>(.inr (a7 0 x.1),x.1)
def BS (KL:List (D×Nat))(o:Str):Option D:=cH (bU (mU KL)).1 (bU (mU KL)).2 (.inr o)
theorem rm (g:wq r)(h:bd r=true):∃a o rl,∃m f:Int,r=row a ("root" : Str) [.str o,.int m,.int f,.str rl]:=by
 obtain⟨a,k,aD,rfl,d⟩:=g;have hk:k=("root" : Str):=of_decide_eq_true h;subst hk;obtain⟨o,rl,m,f,rfl⟩:=d.root_of;exact⟨a,o,rl,m,f,rfl⟩
theorem dz (g:fQ ab)(hx:x∈ak ab aa):oj ab (x.2:Int)=some x.1/\wq x.1:=⟨cE (b7 hx),g.2 _ (vL (b7 hx))⟩
theorem yI (g:fQ ab)(h:BS (ak ab aa) o=some v):∃a o2 rl,∃m f:Int,v=row a ("root" : Str) [.str o2,.int m,.int f,.str rl]:=by
 have hv:=rj h;rcases tW _ ([],[]) v hv with h|⟨p,hp,e⟩
 ·cases h
 ·obtain⟨x,hx,rfl⟩:=vO hp;obtain⟨h1,h2⟩:=vN hx;rw[←e];exact rm (dz g h1).2 h2
theorem rq (g:fQ ab)(aa:Int):gu [.tup ab,.int aa]=sF (.dk (bU (mU (ak ab aa))).1 (bU (mU (ak ab aa))).2):=by
 have hl:=cu ab aa;have AI:=g.1;have h1:=mF (fi:=cq (fA cF (fV 0 (fV 1 ai)))) (nT:=1) (cap:=[0]) (tg:=dA 0) (fe:=f2 bM (aj 1) (aj 0)) (ρ:=[sF (.tup ab),sF (.int aa),none]) (ak ab aa) (λx=>.int x.2) Prod.fst
  (by
   show(fA cF (fV 0 (fV 1 ai)) _).bind _=_;rw[aJ [.tup ab,.int aa] rfl (kH ab g.rp g.le aa)];rfl) (by omega) λx hx=>by
   have ha:=(dz g hx).1;exact⟨_,rfl,false,by simp[cA,ha]⟩
 have hn:bz ((ak ab aa).map Prod.fst)=true:=bY λd hd=>by
  obtain⟨x,hx,rfl⟩:=vO hd;exact(dz g hx).2.rp.flat
 have h2:=iM (fi:=cq (aj 2)) (nT:=1) (cap:=[]) (tg:=dA 0) (c:=bw (f2 dG (fA aK (fV 0 ai)) (fS ("root" : Str)))) (fe:=fA aV (af (fA au (fV 0 (af (fS ("office" : Str)) ai))) (fV 0 ai)))
  (ρ:=[sF (.tup ab),sF (.int aa),some (.lst ((ak ab aa).map Prod.fst),true)]) (ak ab aa) Prod.fst (λx=>bd x.1) (λx=>.tup [.str (a7 0 x.1),x.1]) (by simp) (by omega) λx hx=>by
   have gr:=(dz g hx).2;refine⟨_,rfl,bR (a:=kindOf x.1) (bb:=false) (aJ [x.1] rfl (jc gr)) rfl,λhp=>⟨false,?_⟩⟩;obtain⟨a,o,rl,m,f,e⟩:=rm gr hp;refine aJ [.str (a7 0 x.1),x.1] (cj (aJ [x.1,.str "office"] rfl ?_) rfl) (cy _ (by simp));rw[e];exact kJ
 refine aw rfl (cx (ds:=(ak ab aa).map Prod.fst) h1 hn (az (aJ [.lst (((ak ab aa).filter λx:D×Nat=>bd x.1).map λx:D×Nat=>D.tup [.str (a7 0 x.1),x.1])] (aF h2 rfl) ?_)));rw[jC,tX (λx:D×Nat=>a7 0 x.1) Prod.fst];rfl
def pb:D×Nat->List (D×Nat)->D×Nat
 |b,[]=>b
 |b,x::r=>if aY (kA x) (kA b)=some true then pb x r else pb b r
theorem ww:∀(r:List (D×Nat))(b:D×Nat),ls (kA b,.int b.2) (r.map λx=>(kA x,D.int x.2))=.int (pb b r).2
 |[],b=>rfl
 |x::r,b=>by
  rw[uY,ls,pb];split
  ·exact ww r x
  ·exact ww r b
def i6 (KL:List (D×Nat))(p:Str)(day:Int)(i:Nat):Bool:=match KL.filter (λx=>told dZ p day x.1) with
 |[]=>false
 |b::r=>decide ((pb b r).2=i)
theorem Gb (g:fQ ab)(aa:Int)(hx:x∈ak ab aa)(e:x.1=row a ("death" : Str) [.int d,.str p]):ge [.tup ab,.int aa,.int x.2]=sF (.bl (i6 (ak ab aa) p d x.2)):=by
 have ha:=(dz g hx).1;have gx:=(dz g hx).2;have ht:=wo ab g.rp g.le aa dZ jJ p d;have zu:au [x.1,.str "person"]=sF (.str p):=by rw[e];exact br (i:=1) (bi (by decide +kernel)) rfl
 have wH:aO [x.1]=sF (.int d):=by rw[e];exact js (.inl (by decide +kernel)) rfl
 have lg:x∈oZ ab aa dZ p d:=List.mem_filter.mpr ⟨hx,by rw[e];simp[told,row,dZ,tT]⟩;have Ys:i6 (ak ab aa) p d x.2=match oZ ab aa dZ p d with|[]=>false|b::r=>decide ((pb b r).2=x.2):=rfl
 have key:∀y∈oZ ab aa dZ p d,∃h k dd,ab[y.2]? = some (row h k [.int dd,.str p])/\y.1=row h k [.int dd,.str p]/\cU k=true:=λy hy=>by
  obtain⟨hg,Uo⟩:=BN hy;obtain⟨h,k,dd,e2,h3,_⟩:=qU jJ (g.rp _ (vL hg)) Uo;exact⟨h,k,dd,by rw[hg,e2],e2,h3⟩
 rw[Ys];cases hs:oZ ab aa dZ p d with
 |nil=>rw[hs]at lg;cases lg
 |cons b r=>
  rw[hs]at ht key;have hm:∀ρ:DL.Env,ρ[0]? = some (sF (.tup ab))->jB (qc [0] (fA ft (fV 1 (fV 0 ai))) ρ) ((b::r).map λy=>.int y.2)=some ((b::r).map λy=>.tup [.int (a9 y.1),.int y.2]):=λρ h0=>
   ir (b::r) λy hy=>by
    obtain⟨h,k,dd,hg,e2,h3⟩:=key y hy;show(fA ft _ _).map _=_;rw[aJ [.tup ab,.int y.2] (by simp[cA,h0]) (BO hg h3),e2];rfl
  have hk:dj ((b::r).map λy=>D.tup [.int (a9 y.1),.int y.2])=some ((b::r).map kA):=gh _ λy _=>rfl;have hz:((b::r).map kA).zip ((b::r).map λy=>D.int y.2)=(kA b,D.int b.2)::r.map λy=>(kA y,D.int y.2):=by rw[List.zip_map'];rfl
  have z7:bz ((b::r).map λy=>D.int y.2)=true:=bY λd hd=>by obtain⟨y,_,rfl⟩:=vO hd;rfl
  refine aw rfl (gd x.1 (by simp[ha]) gx.rp.flat (cx (ds:=(b::r).map λy=>.int y.2) (aJ [.tup ab,.int aa,.tup (dZ.map .str),.str p,.int d] (cj rfl (cj rfl (cj (aJ [.str "death"] rfl (cy _ (by simp))) (aF (aJ [x.1,.str "person"] rfl zu) (aF (aJ [x.1] rfl wH) rfl))))) ht) z7 (az (bD (.int (pb b r).2) (.int x.2) ?_ rfl ?_))))
  ·unfold tH ME;show((some (D.lst ((b::r).map λy=>D.int y.2),false)).bind _)=_;rw[vJ];dsimp only;rw[hm _ rfl,vJ,hk,vJ,if_pos (p6 _),hz];show some (ls _ _,false)=_;rw[ww]
  ·rw[BB];congr 3;apply decide_eq_decide.mpr;omega
abbrev KL:=List (D×Nat)
noncomputable def rz (K:KL)(p:Str)(day:Int):Bool:=(K.filter λx=>told dZ p day x.1).isEmpty
def Qa (K:KL)(p:Str)(day:Int):Bool:=match KH (K.filter λx=>told mP p day x.1) with
 |none=>true
 |some x=>decide (kindOf x.1=("found" : Str))
def wx (K:KL)(r:D):Bool:=dX (kindOf r) && (rz K (cZ r) (a9 r) && Qa K (cZ r) (a9 r))
def Gc (r:D):Str:=if kindOf r=("named" : Str)then a7 1 r else a7 2 r
noncomputable def wy:List Str:=[("named" : Str),("chosen" : Str),("heir" : Str)]
def cM (K:KL)(so:List Cl)(x:D×Nat):Bool :=
 if kindOf x.1=("death" : Str)then i6 K (a7 1 x.1) (a9 x.1) x.2
 else if kindOf x.1∈wy then match BS K (Gc x.1) with
  |none=>false
  |some v=>if kindOf x.1=("named" : Str)then true else wx K x.1 && iR so (a7 0 v) (a7 3 v) (a7 1 x.1) (a9 x.1)
 else false
theorem Jd (ab:List D)(aa:Int)(p:Str)(day:Int):nS ab aa p day=rz (ak ab aa) p day:=rfl
theorem Je (h:bc r<=aa):eJ ab aa r=wx (ak ab aa) r:=by
 unfold eJ wx;rw[decide_eq_true h,Bool.true_and];rfl
theorem Dw (g:fQ ab)(aa:Int)(so:List Cl)(rX:so.length<=60)(hx:x∈ak ab aa)(O3:bd x.1=false):mI [.tup ab,.int aa,.lst (so.map aR),.int x.2]=sF (.bl (cM (ak ab aa) so x)):=by
 obtain⟨ha,gx⟩:=dz g hx;have hh:bc x.1<=aa:=of_decide_eq_true (vN hx).2;have hf:bv x.1=true:=gx.rp.flat;have hw:∀ρ:DL.Env,ρ[4]? = some (some (x.1,false))->fA aK (fV 4 ai) ρ=sF (.str (kindOf x.1)):=λρ h4=>aJ [x.1] (by simp[h4]) (jc gx);have RW:∀ρ:DL.Env,ρ[4]? = some (some (x.1,false))->bw (f2 ia (fA aK (fV 4 ai)) (fA aV (af (fS ("named" : Str)) (af (fS ("chosen" : Str)) (af (fS ("heir" : Str)) ai))))) ρ=some (!decide (kindOf x.1∈wy)):=λρ h4=>
  de (bD (.str (kindOf x.1)) (.tup (wy.map .str)) (hw ρ h4) (by simp[sizeLine,wy]) (oC _ _))
 by_cases hd:kindOf x.1=("death" : Str)
 ·obtain⟨a,k,aD,e,d⟩:=gx;have hk:k=("death" : Str):=by rw[e]at hd;exact hd
  subst hk;obtain⟨dd,p,rfl⟩:=d.deed.three (by decide +kernel);have hc:cM (ak ab aa) so x=i6 (ak ab aa) p dd x.2:=by
   unfold cM;rw[if_pos hd,e];rfl
  rw[hc];exact aw rfl (gd x.1 (by simp[ha]) hf (bF (bR (bb:=false) (hw _ rfl) (decide_eq_true hd)) (az (aJ [.tup ab,.int aa,.int x.2] rfl (Gb g aa hx e)))))
 ·by_cases h3:kindOf x.1∈wy
  ·have NG:au [x.1,.str "office"]=sF (.str (Gc x.1)):=by
    obtain⟨a,k,aD,e,d⟩:=gx;rw[e]at h3 hd O3 ⊢;replace h3:k∈wy:=h3;clear hd O3;cases d with
    |root=>exact absurd h3 (by decide +kernel)
    |named d o p=>exact br (i:=1) (bi (by decide +kernel)) rfl
    |chosen d b o p s=>exact br (i:=2) (bi (by decide +kernel)) rfl
    |heir d b o p=>exact br (i:=2) (bi (by decide +kernel)) rfl
    |three _ hk=>rcases hk with rfl|rfl|rfl<;>exact absurd h3 (by decide +kernel)
    |other _ hk=>rcases hk with rfl|rfl|rfl|rfl|rfl<;>exact absurd h3 (by decide +kernel)
   have e5:∀ρ:DL.Env,ρ[0]? = some (sF (.tup ab))->ρ[1]? = some (sF (.int aa))->ρ[4]? = some (some (x.1,false))->f2 Fz (fA gu (fV 0 (fV 1 ai))) (fA au (fV 4 (af (fS ("office" : Str)) ai))) ρ=some ((BS (ak ab aa) (Gc x.1)).getD .non,false):=λρ q0 q1 q4=>
    bD (.dk (bU (mU (ak ab aa))).1 (bU (mU (ak ab aa))).2) (.str (Gc x.1)) (aJ [.tup ab,.int aa] (by simp[q0,q1]) (rq g aa)) (aJ [x.1,.str "office"] (by simp[q4]) NG) rfl
   cases hr:BS (ak ab aa) (Gc x.1) with
   |none=>
    rw[hr]at e5;have hc:cM (ak ab aa) so x=false:=by unfold cM;rw[if_neg hd,if_pos h3,hr]
    rw[hc];exact aw rfl (gd x.1 (by simp[ha]) hf (aC (bR (bb:=false) (hw _ rfl) (decide_eq_false hd)) (aC (by rw[RW _ rfl,decide_eq_true h3];rfl) (gd .non (e5 _ rfl rfl rfl) rfl (bF (de (bD .non .non rfl rfl (by simp))) (az rfl))))))
   |some v=>
    rw[hr]at e5;obtain⟨va,vo,Zu,vm,vf,ev⟩:=yI g hr;have VX:bv v=true:=by rw[ev];rfl
    have VY:DQ v .non=sF (.bl false):=by rw[ev];simp[row]
    by_cases hn:kindOf x.1=("named" : Str)
    ·have hc:cM (ak ab aa) so x=true:=by unfold cM;rw[if_neg hd,if_pos h3,hr];dsimp only;rw[if_pos hn]
     rw[hc];exact aw rfl (gd x.1 (by simp[ha]) hf (aC (bR (bb:=false) (hw _ rfl) (decide_eq_false hd)) (aC (by rw[RW _ rfl,decide_eq_true h3];rfl) (gd v (e5 _ rfl rfl rfl) VX (aC (de (bD v .non rfl rfl VY)) (bF (bR (bb:=false) (hw _ rfl) (decide_eq_true hn)) (az rfl)))))))
    ·have hc:cM (ak ab aa) so x=(wx (ak ab aa) x.1 && iR so (a7 0 v) (a7 3 v) (a7 1 x.1) (a9 x.1)):=by unfold cM;rw[if_neg hd,if_pos h3,hr];dsimp only;rw[if_neg hn]
     have VZ:au [x.1,.str "by"]=sF (.str (a7 1 x.1))/\aO [x.1]=sF (.int (a9 x.1)):=by
      refine⟨?_,by rw[qW gx];unfold sr;rw[O3];rfl⟩;obtain⟨a,k,aD,e,d⟩:=gx;rw[e]at h3 hn ⊢;replace h3:k∈wy:=h3;cases d with
      |root=>exact absurd h3 (by decide +kernel)
      |named=>exact absurd rfl hn
      |chosen d b o p s=>exact br (i:=1) (bi (by decide +kernel)) rfl
      |heir d b o p=>exact br (i:=1) (bi (by decide +kernel)) rfl
      |three _ hk=>rcases hk with rfl|rfl|rfl<;>exact absurd h3 (by decide +kernel)
      |other _ hk=>rcases hk with rfl|rfl|rfl|rfl|rfl<;>exact absurd h3 (by decide +kernel)
     have hs:=mQ ab g.rp g.le aa (b7 hx);rw[Je hh]at hs;have GU:cL [.lst (so.map aR),v,.str (a7 1 x.1),.int (a9 x.1)]=sF (.bl (iR so (a7 0 v) (a7 3 v) (a7 1 x.1) (a9 x.1))):=by
      rw[ev];exact wu so rX _ _
     rw[hc];refine aw rfl (gd x.1 (by simp[ha]) hf (aC (bR (bb:=false) (hw _ rfl) (decide_eq_false hd)) (aC (by rw[RW _ rfl,decide_eq_true h3];rfl) (gd v (e5 _ rfl rfl rfl) VX (aC (de (bD v .non rfl rfl VY)) (aC (bR (bb:=false) (hw _ rfl) (decide_eq_false hn)) (az ?_)))))));exact dB (b1:=false) (aJ [.tup ab,.int aa,.int x.2] rfl hs) λ_=>aJ [.lst (so.map aR),v,.str (a7 1 x.1),.int (a9 x.1)] (cj rfl (cj rfl (aF (aJ [x.1,.str "by"] rfl VZ.1) (aF (aJ [x.1] rfl VZ.2) rfl)))) GU
  ·have hc:cM (ak ab aa) so x=false:=by unfold cM;rw[if_neg hd,if_neg h3]
   rw[hc];exact aw rfl (gd x.1 (by simp[ha]) hf (aC (bR (bb:=false) (hw _ rfl) (decide_eq_false hd)) (bF (by rw[RW _ rfl,decide_eq_false h3];rfl) (az rfl))))
def gm (dh:List Str)(p:Str)(day:Int)(c:Cl):List Cl :=
 if(!decide (c.o∈dh) || (!decide (c.p=p) || !(iu c day || decide (day<c.s))))=true then [c]else if c.s<day then [⟨c.o,p,c.s,some day,c.n⟩]else []
noncomputable def bZ (so:List Cl)(dh:List Str)(p:Str)(day:Int):List Cl:=so.flatMap (gm dh p day)
theorem gn (dh:List Str)(p:Str)(day:Int):∀so:List Cl,(bZ so dh p day).length<=so.length
 |[]=>vT _
 |c::so=>by
  unfold bZ;rw[uO,uZ,vE];have h1:=gn dh p day so;have h2:(gm dh p day c).length<=1:=by
   unfold gm;split
   ·simp
   ·split<;>simp
  unfold bZ at h1;omega
theorem A3 (k:Str)(ws:List Str):ia (.str k) (.lst (ws.map .str))=sF (.bl (!decide (k∈ws))):=by
 simp only[ia,gN,vJ,qS];rw[if_pos ⟨rfl,nQ ws⟩]
theorem yJ (so:List Cl)(rX:so.length<=60)(dh:List Str)(p:Str)(day:Int):p4 [.lst (so.map aR),.lst (dh.map .str),.str p,.int day]=some (.lst ((bZ so dh p day).map aR),true):=by
 obtain⟨ρ',e,v5,rfl⟩:=gD (tg:=dA 5) (g:=qF) (λj ρ=>∃v5:Option (D×Bool),ρ=[sF (.lst (so.map aR)),sF (.lst (dh.map .str)),sF (.str p),sF (.int day),some (.lst ((bZ (so.take j) dh p day).map aR),true),v5]) (so.map aR)
  [sF (.lst (so.map aR)),sF (.lst (dh.map .str)),sF (.str p),sF (.int day),some (.lst [],true),none] ⟨none,rfl⟩ (by
   rintro j d ρ hd ⟨v5,rfl⟩;rw[vA]at hd;obtain⟨c,hc,rfl⟩:=oY hd;have hj:j<so.length:=(vV hc).1;have et:bZ (so.take (j+1)) dh p day=bZ (so.take j) dh p day++gm dh p day c:=by
    unfold bZ;rw[List.take_add_one,hc,Option.toList_some,List.flatMap_append,uO,List.flatMap_nil,uQ]
   have bL:(bZ (so.take j) dh p day).length<=60:=vR (gn dh p day _) (by rw[List.length_take];omega);let ρ1:DL.Env:=[sF (.lst (so.map aR)),sF (.lst (dh.map .str)),sF (.str p),sF (.int day),some (.lst ((bZ (so.take j) dh p day).map aR),true),some (aR c,false)];have q0:dI 5 0 ρ1=sF (.str c.o):=bD (aR c) (.int 0) rfl rfl (PY c);have q1:dI 5 1 ρ1=sF (.str c.p):=bD (aR c) (.int 1) rfl rfl (Oc c);have q2:dI 5 2 ρ1=sF (.int c.s):=bD (aR c) (.int 2) rfl rfl (R5 c);have q4:dI 5 4 ρ1=sF (.int c.n):=bD (aR c) (.int 4) rfl rfl (R6 c);have jy:j3 (bw (f2 ia (dI 5 0) (aj 1))) (j3 (bw (f2 CK (dI 5 1) (aj 2))) (fz (j3 (bw (fA cR (fV 5 (fV 3 ai)))) (bw (f2 He (dI 5 2) (aj 3)))))) ρ1=some (!decide (c.o∈dh) || (!decide (c.p=p) || !(iu c day || decide (day<c.s)))) :=
    cY (de (bD (.str c.o) (.lst (dh.map .str)) q0 rfl (A3 _ _))) λ_=>cY (de (bD (.str c.p) (.str p) q1 rfl (by simp))) λ_=>cn (cY (de (aJ [aR c,.int day] rfl (qX c day))) λ_=>de (bD (.int c.s) (.int day) q2 rfl (by simp)))
   by_cases h1:(!decide (c.o∈dh) || (!decide (c.p=p) || !(iu c day || decide (day<c.s))))=true
   ·have eo:gm dh p day c=[c]:=by unfold gm;rw[if_pos h1]
    rw[h1]at jy;refine⟨_,_,rfl,.inl (lK jy (gK (ds:=(bZ (so.take j) dh p day).map aR) (d:=aR c) (b:=false) rfl rfl (mR c) (bA (by simp;omega)))),some (aR c,false),?_⟩;rw[et,eo,uW];rfl
   ·rw[Bool.not_eq_true]at h1;rw[h1]at jy;by_cases h2:c.s<day
    ·have eo:gm dh p day c=[⟨c.o,p,c.s,some day,c.n⟩]:=by unfold gm;rw[if_neg (by rw[h1];decide),if_pos h2]
     refine⟨_,_,rfl,.inl (nJ jy (lK (de (bD (.int c.s) (.int day) q2 rfl (by simp[h2]))) (gK (ds:=(bZ (so.take j) dh p day).map aR) (d:=aR ⟨c.o,p,c.s,some day,c.n⟩) (b:=false) rfl (aJ [.str c.o,.str p,.int c.s,.int day,.int c.n] (aF q0 (cj rfl (aF q2 (cj rfl (aF q4 rfl))))) (cy _ (by simp))) (mR _) (bA (by simp;omega))))),some (aR c,false),?_⟩;rw[et,eo,uW];rfl
    ·have eo:gm dh p day c=[]:=by unfold gm;rw[if_neg (by rw[h1];decide),if_neg h2]
     refine⟨_,_,rfl,.inl (nJ jy (nJ (de (bD (.int c.s) (.int day) q2 rfl (by simp;omega))) rfl)),some (aR c,false),?_⟩;rw[et,eo,uQ];rfl)
 have e':iT (dA 5) qF (so.map aR) [sF (.lst (so.map aR)),sF (.lst (dh.map .str)),sF (.str p),sF (.int day),some (.lst [],true),none]=some (.nx [sF (.lst (so.map aR)),sF (.lst (dh.map .str)),sF (.str p),sF (.int day),some (.lst ((bZ so dh p day).map aR),true),v5]):=by
  rw[e];have:so.take (so.map aR).length=so:=by rw[vI,List.take_length]
  rw[this]
 exact aw rfl (cx (ds:=[]) (by simp[sizeLine]) rfl (dm (jD (ds:=so.map aR) (by simp[ml]) e') (px rfl)))
theorem KJ (ho:au [r,.str "office"]=sF (.str o))(hp:au [r,.str "person"]=sF (.str p))(s:Int)(n:Nat):gF [r,.int s,.int n]=some (aR ⟨o,p,s,none,n⟩,false) :=
 aw rfl (az (aJ [.str o,.str p,.int s,.non,.int n] (aF (aJ [r,.str "office"] rfl ho) (aF (aJ [r,.str "person"] rfl hp) rfl)) (cy _ (by simp))))
theorem Dx (so:List Cl)(rX:so.length<=60)(n:Nat):ij [.lst (so.map aR),row a ("chosen" : Str) [.int d,.str b,.str o,.str p,.int s],.int n]=some (.lst ((bZ so [o] b s++[(⟨o,p,s,none,n⟩:Cl)]).map aR),true):=by
 let r:D:=row a ("chosen" : Str) [.int d,.str b,.str o,.str p,.int s];have ho:au [r,.str "office"]=sF (.str o):=br (i:=2) (bi (by decide +kernel)) rfl;have hp:au [r,.str "person"]=sF (.str p):=br (i:=3) (bi (by decide +kernel)) rfl;have hb:au [r,.str "by"]=sF (.str b):=br (i:=1) (bi (by decide +kernel)) rfl;have hs:au [r,.str "since"]=sF (.int s):=br (i:=4) (bi (by decide +kernel)) rfl;have hl:=gn [o] b s so;refine aw rfl (gd (.int s) (aJ [r,.str "since"] rfl hs) rfl (cx (ds:=(bZ so [o] b s).map aR) (aJ [.lst (so.map aR),.lst ([o].map .str),.str b,.int s] (cj rfl (aF (b:=true) (aJ [.str o] (aF (aJ [r,.str "office"] rfl ho) rfl) (gk _ (by simp))) (aF (aJ [r,.str "by"] rfl hb) rfl))) (yJ so rX [o] b s)) (jt _) (az ?_)));refine iY (x:=.lst ((bZ so [o] b s).map aR)) (y:=.lst [aR ⟨o,p,s,none,n⟩]) (b1:=false) (b2:=true) rfl (aJ [aR ⟨o,p,s,none,n⟩] (aF (aJ [r,.int s,.int n] rfl (KJ ho hp s n)) rfl) (gk _ (by simp))) ?_;rw[uW];exact if_pos (dP (by rw[vI,List.length_singleton];omega))
noncomputable def yK (hk:List (List c8))(hv:List D)(o p:Str):Option Str:=match cH hk hv [.inr o,.inr p] with
 |some (.str h)=>some h
 |_=>none
def eu (K:KL)(hk:List (List c8))(hv:List D)(p:Str)(day:Int)(n:Nat)(o:Str):List Cl:=match yK hk hv o p with
 |some h=>if rz K h day=true then [⟨o,h,day,none,n⟩]else []
 |none=>[]
def du (so:List Cl)(p:Str)(day:Int):List Str:=kn (iH ((so.filter λc=>decide (c.p=p) && iu c day).map (·.o)))
def r0 (K:KL)(so:List Cl)(hk:List (List c8))(hv:List D)(p:Str)(day:Int)(n:Nat):List Cl:=(du so p day).flatMap (eu K hk hv p day n)
theorem lR (K:KL)(hk:List (List c8))(hv:List D)(p:Str)(day:Int)(n:Nat)(o:Str):(eu K hk hv p day n o).length<=1:=by
 unfold eu;split
 ·split<;>simp
 ·simp
theorem r6 {α β:Type}(f:α->List β)(h:∀a,(f a).length<=1):∀l:List α,(l.flatMap f).length<=l.length
 |[]=>vT _
 |a::l=>by
  rw[uO,uZ,vE];have:=h a;have:=r6 f h l;omega
theorem yL (so:List Cl)(p:Str)(day:Int):(du so p day).length<=so.length:=by
 unfold du;rw[(fg _).length_eq];refine vR (pM _) ?_;rw[vI];exact vM _ _
theorem wz (g:fQ ab)(aa:Int)(so:List Cl)(rX:so.length<=60)(hk:List (List c8))(hv:List D)(Uq:∀v∈hv,∃s,v=.str s)(hx:x∈ak ab aa)(e:x.1=row a ("death" : Str) [.int d,.str p]):
  k9 [.tup ab,.int aa,.lst (so.map aR),.dt hk hv,.int x.2]=some (.lst ((r0 (ak ab aa) so hk hv p d x.2).map aR),true):=by
 have ha:=(dz g hx).1;have zu:au [x.1,.str "person"]=sF (.str p):=by rw[e];exact br (i:=1) (bi (by decide +kernel)) rfl
 have wH:aO [x.1]=sF (.int d):=by rw[e];exact js (.inl (by decide +kernel)) rfl
 have Wa:=yL so p d;have QU:∀(o:Str)(l:List Cl)(v9:Option (D×Bool)),l.length<=60->gS [sF (.tup ab),sF (.int aa),sF (.lst (so.map aR)),sF (.dt hk hv),sF (.int x.2),sF (.str p),sF (.int d),some (.lst (l.map aR),true),sF (.str o),v9]=some (.nx [sF (.tup ab),sF (.int aa),sF (.lst (so.map aR)),sF (.dt hk hv),sF (.int x.2),sF (.str p),sF (.int d),some (.lst ((l++eu (ak ab aa) hk hv p d x.2 o).map aR),true),sF (.str o),some ((cH hk hv [.inr o,.inr p]).getD .non,false)]):=λo l v9 hl=>by
  have eg:F9 (aj 3) (fV 8 (fV 5 ai)) [sF (.tup ab),sF (.int aa),sF (.lst (so.map aR)),sF (.dt hk hv),sF (.int x.2),sF (.str p),sF (.int d),some (.lst (l.map aR),true),sF (.str o),v9]=some ((cH hk hv [.inr o,.inr p]).getD .non,false):=by
   simp[iK,sizeLine]
  cases hlk:cH hk hv [.inr o,.inr p] with
  |none=>
   rw[hlk]at eg;have ei:eu (ak ab aa) hk hv p d x.2 o=[]:=by unfold eu yK;rw[hlk]
   rw[ei,uQ];exact gd .non eg rfl (nJ (dF (p:=false) (q:=false) (de (by simp)) (by simp)) rfl)
  |some v=>
   obtain⟨h,rfl⟩:=Uq v (rj hlk);rw[hlk]at eg;have QV:=yF ab g.rp g.le aa h d;rw[Jd]at QV;have QW:∀ρ:DL.Env,ρ[0]? = some (sF (.tup ab))->ρ[1]? = some (sF (.int aa))->ρ[6]? = some (sF (.int d))->ρ[9]? = some (sF (.str h))->eE (bw (f2 lC (aj 9) (fC .non))) (bw (fA mG (fV 0 (fV 1 (fV 9 (fV 6 ai)))))) ρ=some (true && rz (ak ab aa) h d):=λρ q0 q1 q6 q9=>
    dF (de (by simp[q9])) λ_=>de (aJ [.tup ab,.int aa,.str h,.int d] (by simp[q0,q1,q6,q9]) QV)
   cases AI:rz (ak ab aa) h d with
   |false=>
    have ei:eu (ak ab aa) hk hv p d x.2 o=[]:=by unfold eu yK;rw[hlk];dsimp only;rw[AI];rfl
    rw[ei,uQ];exact gd (.str h) eg rfl (nJ (by rw[QW _ rfl rfl rfl rfl,AI];rfl) rfl)
   |true=>
    have ei:eu (ak ab aa) hk hv p d x.2 o=[⟨o,h,d,none,x.2⟩]:=by unfold eu yK;rw[hlk];dsimp only;rw[AI];rfl
    rw[ei,uW];exact gd (.str h) eg rfl (lK (by rw[QW _ rfl rfl rfl rfl,AI];rfl) (gK (ds:=l.map aR) (d:=aR ⟨o,h,d,none,x.2⟩) (b:=false) rfl (aJ [.str o,.str h,.int d,.non,.int x.2] rfl (cy _ (by simp))) rfl (bA (by simp;omega))))
 obtain⟨ρ',el,v8,v9,rfl⟩:=gD (tg:=dA 8) (g:=gS) (λj ρ=>∃v8 v9:Option (D×Bool),ρ=[sF (.tup ab),sF (.int aa),sF (.lst (so.map aR)),sF (.dt hk hv),sF (.int x.2),sF (.str p),sF (.int d),some (.lst ((((du so p d).take j).flatMap (eu (ak ab aa) hk hv p d x.2)).map aR),true),v8,v9]) ((du so p d).map .str)
  [sF (.tup ab),sF (.int aa),sF (.lst (so.map aR)),sF (.dt hk hv),sF (.int x.2),sF (.str p),sF (.int d),some (.lst [],true),none,none] ⟨none,none,rfl⟩ (by
   rintro j dd ρ hd ⟨v8,v9,rfl⟩;rw[vA]at hd;obtain⟨o,ho,rfl⟩:=oY hd;have hl:(((du so p d).take j).flatMap (eu (ak ab aa) hk hv p d x.2)).length<=60:=vR (r6 _ (lR _ _ _ _ _ _) _) (by rw[List.length_take];omega);refine⟨_,_,rfl,.inl (QU o _ v9 hl),sF (.str o),some ((cH hk hv [.inr o,.inr p]).getD .non,false),?_⟩;rw[List.take_add_one,ho,Option.toList_some,List.flatMap_append,uO,List.flatMap_nil,uQ])
 have e':iT (dA 8) gS ((du so p d).map .str) [sF (.tup ab),sF (.int aa),sF (.lst (so.map aR)),sF (.dt hk hv),sF (.int x.2),sF (.str p),sF (.int d),some (.lst [],true),none,none]=some (.nx [sF (.tup ab),sF (.int aa),sF (.lst (so.map aR)),sF (.dt hk hv),sF (.int x.2),sF (.str p),sF (.int d),some (.lst ((r0 (ak ab aa) so hk hv p d x.2).map aR),true),v8,v9]):=by
  rw[el];have:(du so p d).take ((du so p d).map D.str).length=du so p d:=by rw[vI,List.take_length]
  rw[this];rfl
 have JQ:∀ρ:DL.Env,ρ[2]? = some (sF (.lst (so.map aR)))->ρ[5]? = some (sF (.str p))->ρ[6]? = some (sF (.int d))->cq (f1 gA (bS (cq (aj 2)) 1 [5,6] (dA 0) (eE (bw (f2 dG (dI 0 1) (aj 1))) (bw (fA cR (fV 0 (fV 2 ai))))) (dI 0 0))) ρ=some ((du so p d).map .str):=λρ q2 q5 q6=>by
  have hc:=iM (fi:=cq (aj 2)) (nT:=1) (cap:=[5,6]) (tg:=dA 0) (c:=eE (bw (f2 dG (dI 0 1) (aj 1))) (bw (fA cR (fV 0 (fV 2 ai))))) (fe:=dI 0 0) (ρ:=ρ) so aR (λc=>decide (c.p=p) && iu c d) (λc=>.str c.o) (by simp[q2]) (by omega) λc hc=>
   ⟨_,rfl,dF (de (bD (.str c.p) (.str p) (bD (aR c) (.int 1) (by simp[cA]) rfl (Oc c)) (by simp[cA,q5]) (by simp))) λ_=>de (aJ [aR c,.int d] (by simp[cA,q6]) (qX c d)),λ_=>⟨false,bD (aR c) (.int 0) (by simp[cA]) rfl (PY c)⟩⟩
  have e2:(so.filter λc=>decide (c.p=p) && iu c d).map (λc=>D.str c.o)=((so.filter λc=>decide (c.p=p) && iu c d).map (·.o)).map .str:=by rw[uP];rfl
  rw[e2]at hc;show(f1 gA _ ρ).bind _=_;unfold f1;rw[hc,vJ];have Yt:((so.filter λc=>decide (c.p=p) && iu c d).map (·.o)).length<64:=by rw[vI];exact Nat.lt_of_le_of_lt (vM _ _) (by omega)
  show((fN _).bind _).bind _=_;rw[rh,vJ,if_pos Yt];rfl
 refine aw rfl (gd (.str p) (aJ [x.1,.str "person"] (by simp[ha]) zu) rfl (gd (.int d) (aJ [x.1] (by simp[ha]) wH) rfl (cx (ds:=[]) (by simp[sizeLine]) rfl (dm (ρ':=[sF (.tup ab),sF (.int aa),sF (.lst (so.map aR)),sF (.dt hk hv),sF (.int x.2),sF (.str p),sF (.int d),some (.lst ((r0 (ak ab aa) so hk hv p d x.2).map aR),true),v8,v9]) ?_ (px rfl)))));exact jD (ρ:=[sF (.tup ab),sF (.int aa),sF (.lst (so.map aR)),sF (.dt hk hv),sF (.int x.2),sF (.str p),sF (.int d),some (.lst [],true),none,none]) (JQ _ rfl rfl rfl) e'
theorem Gd (g:fQ ab)(aa:Int)(so:List Cl)(rX:so.length<=60)(hk:List (List c8))(hv:List D)(Uq:∀v∈hv,∃s,v=.str s)(hx:x∈ak ab aa)(e:x.1=row a ("death" : Str) [.int d,.str p]):
  iZ [.tup ab,.int aa,.lst (so.map aR),.dt hk hv,.int x.2]=some (.lst ((bZ so (so.map Cl.o) p d++r0 (ak ab aa) so hk hv p d x.2).map aR),true):=by
 have ha:=(dz g hx).1;have zu:au [x.1,.str "person"]=sF (.str p):=by rw[e];exact br (i:=1) (bi (by decide +kernel)) rfl
 have wH:aO [x.1]=sF (.int d):=by rw[e];exact js (.inl (by decide +kernel)) rfl
 have h1:=mF (fi:=cq (aj 2)) (nT:=1) (cap:=[]) (tg:=dA 0) (fe:=dI 0 0) (ρ:=[sF (.tup ab),sF (.int aa),sF (.lst (so.map aR)),sF (.dt hk hv),sF (.int x.2),none,none]) so aR (λc=>.str c.o) (by simp) (by omega) λc hc=>⟨_,rfl,false,bD (aR c) (.int 0) (by simp[cA]) rfl (PY c)⟩;have e2:so.map (λc=>D.str c.o)=(so.map Cl.o).map .str:=by rw[uP];rfl
 rw[e2]at h1;have Ld:=gn (so.map Cl.o) p d so;have AI:(r0 (ak ab aa) so hk hv p d x.2).length<=60:=vR (r6 _ (lR _ _ _ _ _ _) _) (vR (yL so p d) rX);refine aw rfl (cx (ds:=(so.map Cl.o).map .str) h1 (dY _) (cx (ds:=(bZ so (so.map Cl.o) p d).map aR) (aJ [.lst (so.map aR),.lst ((so.map Cl.o).map .str),.str p,.int d] (cj rfl (cj rfl (cj (aJ [x.1,.str "person"] (by simp[ha]) zu) (cj (aJ [x.1] (by simp[ha]) wH) rfl)))) (yJ so rX _ p d)) (jt _) (az ?_)));refine iY (x:=.lst ((bZ so (so.map Cl.o) p d).map aR)) (y:=.lst ((r0 (ak ab aa) so hk hv p d x.2).map aR)) (b1:=false) (b2:=true) rfl (aJ [.tup ab,.int aa,.lst (so.map aR),.dt hk hv,.int x.2] rfl (wz g aa so rX hk hv Uq hx e)) ?_;rw[uW];exact if_pos (dP (by rw[vI,vI];omega))
abbrev Oe:=List Cl×List (List c8)×List D
def eQ (K:KL)(st:Oe)(x:D×Nat):Oe :=
 if cM K st.1 x=true then
  if kindOf x.1=("named" : Str)then (st.1++[⟨a7 1 x.1,a7 2 x.1,a9 x.1,none,x.2⟩],st.2)
  else if kindOf x.1=("chosen" : Str)then (bZ st.1 [a7 2 x.1] (a7 1 x.1) (iz 4 x.1)++[⟨a7 2 x.1,a7 3 x.1,iz 4 x.1,none,x.2⟩],st.2)
  else if kindOf x.1=("heir" : Str)then (st.1,dD st.2.1 [.inr (a7 2 x.1),.inr (a7 1 x.1)],dE st.2.1 st.2.2 [.inr (a7 2 x.1),.inr (a7 1 x.1)] (.str (a7 3 x.1)))
  else (bZ st.1 (st.1.map Cl.o) (a7 1 x.1) (a9 x.1)++r0 K st.1 st.2.1 st.2.2 (a7 1 x.1) (a9 x.1) x.2,st.2)
 else st
def cI (K:KL):KL:=dw (λx=>cw (kA x)) (K.filter λx=>!bd x.1)
noncomputable def mV (K:KL)(l:KL):Oe:=l.foldl (eQ K) ([],[],[])
noncomputable def kC (c:Cl):List At:=[.s c.o,.i c.s,.i c.n]
def bj (K:KL):List Cl:=dw (λc=>cw (kC c)) (mV K (cI K)).1
noncomputable def A4:List c8->Str
 |[_,.inr p]=>p
 |_=>("" : Str)
noncomputable def Jf (dd:List Str)(ks:List (List c8)):Nat:=(ks.filter λk=>decide (A4 k∉dd)).length
structure zv (K l:KL)(dd:List Str)(st:Oe):Prop where
 len:st.1.length+Jf dd st.2.1<=l.length
 ded:∀q∈dd,∃y∈l,i6 K q (a9 y.1) y.2=true
 nod:(st.1.map λc=>(c.o,c.n)).Nodup
 num:∀c∈st.1,c.n∈l.map (·.2)
 hs:∀v∈st.2.2,∃s,v=D.str s
 hk:st.2.1.length<=l.length
theorem BU (h:told ws p d r=true):a9 r<=d/\∀d',a9 r<=d'->told ws p d' r=true:=by
 unfold told at h;split at h
 ·rename_i k aD;rw[vC]at h;obtain⟨h1,h2⟩:=h;unfold tT at h2;split at h2
  ·rename_i dd q;rw[vC]at h2;refine⟨of_decide_eq_true h2.2,λd' hd=>?_⟩;unfold told;rw[vC];refine⟨h1,?_⟩;unfold tT;rw[vC];exact⟨h2.1,decide_eq_true hd⟩
  ·cases h2
 ·cases h
theorem r9:∀(r:KL)(b:D×Nat),pb b r∈b::r/\∀y∈b::r,fP y (pb b r)=false
 |[],b=>⟨by simp[pb],λy hy=>by rw[uT hy];simp[pb,fP]⟩
 |x::r,b=>by
  rw[pb,Az];by_cases h:fP x b=true
  ·rw[if_pos (by rw[h])];obtain⟨h1,h2⟩:=r9 r x;refine⟨mZ _ h1,λy hy=>?_⟩;rcases vP hy with rfl|hy
   ·have:=h2 x mX;unfold fP at *;simp at *;omega
   ·exact h2 y hy
  ·rw[if_neg (by simpa using h)];obtain⟨h1,h2⟩:=r9 r b;refine⟨?_,λy hy=>?_⟩
   ·rcases vP h1 with e|e
    ·rw[e];exact mX
    ·exact mZ _ (mZ _ e)
   ·rcases vP hy with rfl|hy
    ·exact h2 _ mX
    ·rcases vP hy with rfl|hy
     ·have:=h2 b mX;unfold fP at *;simp at *;omega
     ·exact h2 y (mZ _ hy)
theorem rA (h:i6 K p d i=true):∃m∈K,told dZ p d m.1=true/\m.2=i/\∀y∈K,told dZ p d y.1=true->fP y m=false:=by
 unfold i6 at h;split at h
 ·cases h
 ·rename_i b r e;obtain⟨h1,h2⟩:=r9 r b;rw[←e]at h1 h2;obtain⟨h3,h4⟩:=vN h1;exact⟨_,h3,h4,of_decide_eq_true h,λy hy ht=>h2 y (List.mem_filter.mpr ⟨hy,ht⟩)⟩
theorem A5 (h1:i6 K p d1 i1=true)(h2:i6 K p d2 i2=true):i1=i2:=by
 obtain⟨m1,k1,t1,e1,q1⟩:=rA h1;obtain⟨m2,k2,t2,e2,q2⟩:=rA h2;have a1:=BU t1;have a2:=BU t2;by_cases hd:d1<=d2
 ·have z1:=q2 m1 k1 (a1.2 d2 (by omega));have hm:a9 m2.1<=a9 m1.1:=by unfold fP at z1;simp at z1;omega
  have z2:=q1 m2 k2 (a2.2 d1 (by omega));unfold fP at z1 z2;simp at z1 z2;omega
 ·have z1:=q1 m2 k2 (a2.2 d1 (by omega));have hm:a9 m1.1<=a9 m2.1:=by unfold fP at z1;simp at z1;omega
  have z2:=q2 m1 k1 (a1.2 d2 (by omega));unfold fP at z1 z2;simp at z1 z2;omega
theorem yM {κ:Type}[DecidableEq κ]:∀ {ks:List κ}{vs:List D}{k:κ}{v:D},cH ks vs k=some v->k∈ks
 |k'::ks,d::ds,k,v,h=>by
  unfold cH at h;split at h
  ·rename_i e;rw[←e];exact mX
  ·exact mZ _ (yM h)
 |[],_,_,_,h=>by simp[cH]at h
 |_::_,[],_,_,h=>by simp[cH]at h
theorem rB (p:Str)(dd:List Str)(hp:p∉dd):∀ks:List (List c8),Jf dd ks=Jf (p::dd) ks+(ks.filter λk=>decide (A4 k=p)).length
 |[]=>rfl
 |k::ks=>by
  have ih:=rB p dd hp ks;unfold Jf at ih ⊢;by_cases e:A4 k=p
  ·rw[List.filter_cons_of_pos (by simpa [e]using hp),List.filter_cons_of_neg (by simp[e]),List.filter_cons_of_pos (by simp[e]),vE,vE];omega
  ·by_cases h:A4 k∈dd
   ·rw[List.filter_cons_of_neg (by simp[h]),List.filter_cons_of_neg (by simp[h]),List.filter_cons_of_neg (by simp[e])];exact ih
   ·rw[List.filter_cons_of_pos (by simp[h]),List.filter_cons_of_pos (by simp[h,e]),List.filter_cons_of_neg (by simp[e]),vE,vE];omega
theorem kY (dh:List Str)(p:Str)(day:Int):∀so:List Cl,((bZ so dh p day).map λc=>(c.o,c.n)).Sublist (so.map λc=>(c.o,c.n))
 |[]=>List.Sublist.slnil
 |c::so=>by
  have ih:=kY dh p day so;unfold bZ at ih ⊢;rw[uO,uW,uY];have:((gm dh p day c).map λc=>(c.o,c.n))=[(c.o,c.n)]∨((gm dh p day c).map λc=>(c.o,c.n))=[]:=by
   unfold gm;split
   ·exact .inl rfl
   ·split
    ·exact .inl rfl
    ·exact .inr rfl
  rcases this with h|h
  ·rw[h];exact ih.cons₂ _
  ·rw[h];exact ih.cons _
theorem kZ (h:c∈bZ so dh p day):∃c'∈so,c'.o=c.o/\c'.n=c.n:=by
 have:=(kY dh p day so).subset (uS ⟨c,h,rfl⟩);obtain⟨c',h1,h2⟩:=vO this;injection h2 with h3 h4;exact⟨c',h1,h3,h4⟩
theorem ju:∀(ss ts:List Str),ts.Nodup->(ss.foldl jT ts).Nodup
 |[],_,h=>h
 |s::ss,ts,h=>ju ss _ (Af h s)
theorem rC (so:List Cl)(p:Str)(day:Int):(du so p day).Nodup:=(fg _).nodup_iff.mpr (ju _ [] List.nodup_nil)
theorem yN (K:KL)(hk:List (List c8))(hv:List D)(p:Str)(day:Int)(n:Nat):∀os:List Str,((os.flatMap (eu K hk hv p day n)).map λc=>(c.o,c.n)).Sublist (os.map λo=>(o,n))
 |[]=>List.Sublist.slnil
 |o::os=>by
  have ih:=yN K hk hv p day n os;rw[uO,uW,uY];have:((eu K hk hv p day n o).map λc=>(c.o,c.n))=[(o,n)]∨((eu K hk hv p day n o).map λc=>(c.o,c.n))=[]:=by
   unfold eu;split
   ·split
    ·exact .inl rfl
    ·exact .inr rfl
   ·exact .inr rfl
  rcases this with h|h
  ·rw[h];exact ih.cons₂ _
  ·rw[h];exact ih.cons _
theorem tY {α:Type}[DecidableEq α]:∀(l m:List α),l.Nodup->(∀x∈l,x∈m)->l.length<=m.length
 |[],_,_,_=>uN _
 |x::l,m,h,s=>by
  rw[List.nodup_cons]at h;have hx:=s x mX;have:=tY l (m.erase x) h.2 λy hy=>(List.mem_erase_of_ne (a:=y) (b:=x) (λe=>h.1 (by rw[←e];exact hy))).mpr (s y (mZ _ hy));rw[List.length_erase_of_mem hx]at this;have:0<m.length:=List.length_pos_of_mem hx;rw[vE];omega
theorem tZ {α β:Type}(f:α->List β)(q:α->Bool)(h:∀a,(f a).length<=1/\(q a=false->f a=[])):∀l:List α,(l.flatMap f).length<=(l.filter q).length
 |[]=>vT _
 |a::l=>by
  have ih:=tZ f q h l;rw[uO,uZ];cases hq:q a with
  |true=>rw[List.filter_cons_of_pos hq,vE];have:=(h a).1;omega
  |false=>rw[List.filter_cons_of_neg (by rw[hq];decide),(h a).2 hq];simpa using ih
theorem Jg (K:KL)(so:List Cl)(hk:List (List c8))(hv:List D)(p:Str)(day:Int)(n:Nat):(r0 K so hk hv p day n).length<=(hk.filter λk=>decide (A4 k=p)).length:=by
 refine vR (tZ _ (λo=>(cH hk hv [.inr o,.inr p]).isSome) (λo=>⟨lR _ _ _ _ _ _ _,λh=>?_⟩) _) ?_
 ·have hl:cH hk hv [.inr o,.inr p]=none:=by simpa using h
  unfold eu yK;rw[hl]
 ·have JR:(((du so p day).filter λo=>(cH hk hv [.inr o,.inr p]).isSome).map λo=>([.inr o,.inr p]:List c8)).Nodup:=List.Pairwise.map _ (λa b hab e=>hab (by injection e with e _;injection e)) ((rC so p day).filter _);have:=tY _ (hk.filter λk=>decide (A4 k=p)) JR λk hm=>by
   obtain⟨o,ho,rfl⟩:=vO hm;obtain⟨v,hv⟩:=uU (vN ho).2;exact List.mem_filter.mpr ⟨yM hv,decide_eq_true rfl⟩
  rwa [vI]at this
theorem zv.step {K l:KL}{dd:List Str}{st:Oe}(h:zv K l dd st){x:D×Nat}(hx:x.2∉l.map (·.2)):∃J9,zv K (l++[x]) J9 (eQ K st x):=by
 have up:∀ {n:Nat},n∈l.map (·.2)->n∈(l++[x]).map (·.2):=λh=>by rw[uW];exact List.mem_append_left _ h
 have me:x.2∈(l++[x]).map (·.2):=by simp
 have ll:(l++[x]).length=l.length+1:=by simp
 have QX:∀q∈dd,∃y∈l++[x],i6 K q (a9 y.1) y.2=true:=λq hq=>by
  obtain⟨y,h1,h2⟩:=h.ded q hq;exact⟨y,List.mem_append_left _ h1,h2⟩
 have wk:zv K (l++[x]) dd st:=⟨by have:=h.len;omega,QX,h.nod,λc hc=>up (h.num c hc),h.hs,by have:=h.hk;omega⟩;have bL:=h.len;unfold eQ;split
 ·rename_i hcount;split
  ·refine⟨dd,by simp;omega,QX,?_,λc hc=>?_,h.hs,by rw[ll];exact Nat.le_succ_of_le h.hk⟩
   ·rw[uW,List.nodup_append];refine⟨h.nod,by simp,λa ha b hb e=>?_⟩;obtain⟨c,hc,rfl⟩:=vO ha;simp at hb;subst hb;injection e with _ e2;exact hx (e2 ▸ h.num c hc)
   ·rcases List.mem_append.mp hc with hc|hc
    ·exact up (h.num c hc)
    ·rw[uT hc];exact me
  ·split
   ·have hl:=gn [a7 2 x.1] (a7 1 x.1) (iz 4 x.1) st.1;refine⟨dd,by simp;omega,QX,?_,λc hc=>?_,h.hs,by rw[ll];exact Nat.le_succ_of_le h.hk⟩
    ·rw[uW,List.nodup_append];refine⟨h.nod.sublist (kY _ _ _ _),by simp,λa ha b hb e=>?_⟩;obtain⟨c,hc,rfl⟩:=vO ha;simp at hb;subst hb;injection e with _ e2;obtain⟨c',h1,_,h3⟩:=kZ hc;exact hx (e2 ▸ h3 ▸ h.num c' h1)
    ·rcases List.mem_append.mp hc with hc|hc
     ·obtain⟨c',h1,_,h3⟩:=kZ hc;rw[←h3];exact up (h.num c' h1)
     ·rw[uT hc];exact me
   ·split
    ·have hp:∀k:List c8,Jf dd (dD st.2.1 k)<=Jf dd st.2.1+1/\(dD st.2.1 k).length<=st.2.1.length+1:=λk=>by
      unfold dD;split
      ·omega
      ·have:([k].filter λk=>decide (A4 k∉dd)).length<=1:=vM _ _;unfold Jf;rw[List.filter_append,uZ,uZ,List.length_singleton];omega
     refine⟨dd,?_,QX,wk.nod,wk.num,λv hv=>?_,?_⟩
     ·have:=(hp [.inr (a7 2 x.1),.inr (a7 1 x.1)]).1;rw[ll];show st.1.length+Jf dd (dD st.2.1 [.inr (a7 2 x.1),.inr (a7 1 x.1)])<=_;omega
     ·rcases tV hv with hv|hv
      ·exact⟨_,hv⟩
      ·exact h.hs v hv
     ·have:=(hp [.inr (a7 2 x.1),.inr (a7 1 x.1)]).2;have:=h.hk;rw[ll];show(dD _ _).length<=_;omega
    ·rename_i n1 n2 n3;have hd:kindOf x.1=("death" : Str):=by
      unfold cM at hcount;by_cases hd:kindOf x.1=("death" : Str)
      ·exact hd
      ·rw[if_neg hd,if_neg (by simp[wy,n1,n2,n3])]at hcount;cases hcount
     have hf:i6 K (a7 1 x.1) (a9 x.1) x.2=true:=by unfold cM at hcount;rwa [if_pos hd]at hcount
     have Ou:a7 1 x.1∉dd:=λhm=>by
      obtain⟨y,h1,h2⟩:=h.ded _ hm;exact hx (by rw[←A5 h2 hf];exact uS ⟨y,h1,rfl⟩)
     have hl:=gn (st.1.map Cl.o) (a7 1 x.1) (a9 x.1) st.1;have Zv:=Jg K st.1 st.2.1 st.2.2 (a7 1 x.1) (a9 x.1) x.2;have TY:=rB (a7 1 x.1) dd Ou st.2.1;have Wb:=yN K st.2.1 st.2.2 (a7 1 x.1) (a9 x.1) x.2 (du st.1 (a7 1 x.1) (a9 x.1));have Wc:∀c∈r0 K st.1 st.2.1 st.2.2 (a7 1 x.1) (a9 x.1) x.2,c.o∈du st.1 (a7 1 x.1) (a9 x.1)/\c.n=x.2:=λc hc=>by
      have:=Wb.subset (uS ⟨c,hc,rfl⟩);obtain⟨o,h1,h2⟩:=vO this;injection h2 with h3 h4;exact⟨h3 ▸ h1,h4.symm⟩
     refine⟨a7 1 x.1::dd,?_,λq hq=>?_,?_,λc hc=>?_,h.hs,by rw[ll];exact Nat.le_succ_of_le h.hk⟩
     ·rw[ll];show(bZ st.1 (st.1.map Cl.o) (a7 1 x.1) (a9 x.1)++r0 K st.1 st.2.1 st.2.2 (a7 1 x.1) (a9 x.1) x.2).length+Jf _ st.2.1<=_;rw[uZ];omega
     ·rcases vP hq with rfl|hq
      ·exact⟨x,by simp,hf⟩
      ·exact QX q hq
     ·rw[uW,List.nodup_append];refine⟨h.nod.sublist (kY _ _ _ _),List.Nodup.sublist Wb (List.Pairwise.map _ (λa b hab e=>hab (by injection e)) (rC _ _ _)),λa ha b hb e=>?_⟩;obtain⟨c,hc,rfl⟩:=vO ha;obtain⟨c2,wL,rfl⟩:=vO hb;injection e with _ e2;obtain⟨c',h1,_,h3⟩:=kZ hc;exact hx ((Wc c2 wL).2 ▸ e2 ▸ h3 ▸ h.num c' h1)
     ·rcases List.mem_append.mp hc with hc|hc
      ·obtain⟨c',h1,_,h3⟩:=kZ hc;rw[←h3];exact up (h.num c' h1)
      ·rw[(Wc c hc).2];exact me
 ·exact⟨dd,wk⟩
theorem Jh (e:ρ[i]? = some (some (.dt ks vs,true)))(ev:fv ρ=some (d,b))(ek:fk ρ=some kd)(hk:iK kd=some kk)(hf:bv d=true)(h1:ks.length<=1000)(h2:kd.length<=1000):tK i fk fv ρ=some (.nx (ρ.set i (some (.dt (dD ks kk) (dE ks vs kk d),true)))):=by
 unfold tK;rw[e];dsimp only;rw[ev,vJ,ek,vJ,hk,vJ,if_pos ⟨hf,bA (by omega),dP (by omega)⟩]
theorem SS (a b:Cl):(aY (kC a) (kC b)).isSome=true:=by
 unfold kC;rw[aY];split
 ·rw[aY];split
  ·rw[aY];split
   ·rw[aY];rfl
   ·rfl
  ·rfl
 ·rfl
theorem BV (cs:List Cl):di (cs.map kC)=true:=by
 unfold di;simp[List.all_eq_true,SS]
theorem nU {α β:Type}(f:α->β):∀ {l:List α},(l.map f).Nodup->∀ {a b:α},a∈l->b∈l->f a=f b->a=b
 |[],_,_,_,ha,_,_=>by cases ha
 |c::l,h,a,b,ha,hb,e=>by
  rw[uY,List.nodup_cons]at h;rcases vP ha with ea|ha1
  ·rcases vP hb with eb|hb1
   ·rw[ea,eb]
   ·exact absurd (uS ⟨b,hb1,by rw[←e,ea]⟩) h.1
  ·rcases vP hb with eb|hb1
   ·exact absurd (uS ⟨a,ha1,by rw[e,eb]⟩) h.1
   ·exact nU f h.2 ha1 hb1 e
theorem Ge {cs:List Cl}{a b:Cl}(ha:a∈cs)(hb:b∈cs)(e:cw (kC a)=cw (kC b)):(a.o,a.n)=(b.o,b.n):=by
 have h:=kT (BV cs) (uS ⟨a,ha,rfl⟩) (uS ⟨b,hb,rfl⟩) e;unfold kC at h;injection h with h1 h2;injection h1 with h1;injection h2 with _ h3;injection h3 with h3 _;injection h3 with h3;rw[h1,show a.n=b.n by omega]
theorem Ji (g:fQ ab)(aa:Int)(h:zv (ak ab aa) l dd st)(hj:l.length<=60)(hx:x∈ak ab aa)(O3:bd x.1=false)(v5:Option (D×Bool)):
  ∃w5,(kW [sF (.tup ab),sF (.int aa),some (.lst (st.1.map aR),true),some (.dt st.2.1 st.2.2,true),sF (.int x.2),v5]=some (.nx [sF (.tup ab),sF (.int aa),some (.lst ((eQ (ak ab aa) st x).1.map aR),true),some (.dt (eQ (ak ab aa) st x).2.1 (eQ (ak ab aa) st x).2.2,true),sF (.int x.2),w5])
   ∨ kW [sF (.tup ab),sF (.int aa),some (.lst (st.1.map aR),true),some (.dt st.2.1 st.2.2,true),sF (.int x.2),v5]=some (.ct [sF (.tup ab),sF (.int aa),some (.lst ((eQ (ak ab aa) st x).1.map aR),true),some (.dt (eQ (ak ab aa) st x).2.1 (eQ (ak ab aa) st x).2.2,true),sF (.int x.2),w5])):=by
 obtain⟨ha,gx⟩:=dz g hx;have rX:st.1.length<=60:=by have:=h.len;omega
 have hf:bv x.1=true:=gx.rp.flat;have ec:=Dw g aa st.1 rX hx O3;have Cu:fz (bw (fA mI (fV 0 (fV 1 (fV 2 (fV 4 ai)))))) [sF (.tup ab),sF (.int aa),some (.lst (st.1.map aR),true),some (.dt st.2.1 st.2.2,true),sF (.int x.2),some (x.1,false)]=some (!cM (ak ab aa) st.1 x) :=
  cn (de (aJ [.tup ab,.int aa,.lst (st.1.map aR),.int x.2] (by simp) ec))
 have hw:fA aK (fV 5 ai) [sF (.tup ab),sF (.int aa),some (.lst (st.1.map aR),true),some (.dt st.2.1 st.2.2,true),sF (.int x.2),some (x.1,false)]=sF (.str (kindOf x.1)):=aJ [x.1] rfl (jc gx);refine⟨some (x.1,false),?_⟩;cases hc:cM (ak ab aa) st.1 x with
 |false=>
  rw[hc]at Cu;have es:eQ (ak ab aa) st x=st:=by unfold eQ;rw[hc];rfl
  rw[es];exact .inr (gd x.1 (by simp[ha]) hf (SR (lK Cu rfl)))
 |true=>
  rw[hc]at Cu;left;refine gd x.1 (by simp[ha]) hf (dm (nJ Cu rfl) ?_);by_cases hn:kindOf x.1=("named" : Str)
  ·have es:eQ (ak ab aa) st x=(st.1++[⟨a7 1 x.1,a7 2 x.1,a9 x.1,none,x.2⟩],st.2):=by unfold eQ;rw[hc,if_pos rfl,if_pos hn]
   rw[es];refine lK (bR (bb:=false) hw (decide_eq_true hn)) ?_;have O4:au [x.1,.str "office"]=sF (.str (a7 1 x.1))/\au [x.1,.str "person"]=sF (.str (a7 2 x.1)):=by
    obtain⟨a,k,aD,e,d⟩:=gx;rw[e]at hn ⊢;replace hn:k=("named" : Str):=hn;cases d with
    |named d o p=>exact⟨br (i:=1) (bi (by decide +kernel)) rfl,br (i:=2) (bi (by decide +kernel)) rfl⟩
    |root=>exact absurd hn (by decide +kernel)
    |chosen=>exact absurd hn (by decide +kernel)
    |heir=>exact absurd hn (by decide +kernel)
    |three _ hk=>rcases hk with rfl|rfl|rfl<;>exact absurd hn (by decide +kernel)
    |other _ hk=>rcases hk with rfl|rfl|rfl|rfl|rfl<;>exact absurd hn (by decide +kernel)
   have wH:aO [x.1]=sF (.int (a9 x.1)):=by rw[qW gx];unfold sr;rw[O3];rfl
   have e2:f2 bX (aj 2) (fA bH (af (fA gF (fV 5 (af (fA aO (fV 5 ai)) (fV 4 ai)))) ai)) [sF (.tup ab),sF (.int aa),some (.lst (st.1.map aR),true),some (.dt st.2.1 st.2.2,true),sF (.int x.2),some (x.1,false)]=some (.lst (st.1.map aR++[aR ⟨a7 1 x.1,a7 2 x.1,a9 x.1,none,x.2⟩]),true):=by
    refine iY (x:=.lst (st.1.map aR)) (y:=.lst [aR ⟨a7 1 x.1,a7 2 x.1,a9 x.1,none,x.2⟩]) (b1:=false) (b2:=true) rfl ?_ (if_pos (dP (by rw[vI,List.length_singleton];omega)));exact aJ [aR ⟨a7 1 x.1,a7 2 x.1,a9 x.1,none,x.2⟩] (aF (aJ [x.1,.int (a9 x.1),.int x.2] (cj rfl (cj (aJ [x.1] rfl wH) rfl)) (KJ O4.1 O4.2 _ _)) rfl) (gk _ (by simp))
   have:=wj (i:=2) e2 (by have hq:=jt (st.1++[(⟨a7 1 x.1,a7 2 x.1,a9 x.1,none,x.2⟩:Cl)]);rwa [uW]at hq);rw[uW];exact this
  ·refine nJ (bR (bb:=false) hw (decide_eq_false hn)) ?_;by_cases pe:kindOf x.1=("chosen" : Str)
   ·have es:eQ (ak ab aa) st x=(bZ st.1 [a7 2 x.1] (a7 1 x.1) (iz 4 x.1)++[⟨a7 2 x.1,a7 3 x.1,iz 4 x.1,none,x.2⟩],st.2):=by unfold eQ;rw[hc,if_pos rfl,if_neg hn,if_pos pe]
    rw[es];refine lK (bR (bb:=false) hw (decide_eq_true pe)) (wj (i:=2) (aJ [.lst (st.1.map aR),x.1,.int x.2] rfl ?_) (jt _));obtain⟨a,k,aD,e,d⟩:=gx;rw[e]at pe ⊢;replace pe:k=("chosen" : Str):=pe;cases d with
    |chosen d b o p s=>exact Dx st.1 rX x.2
    |root=>exact absurd pe (by decide +kernel)
    |named=>exact absurd pe (by decide +kernel)
    |heir=>exact absurd pe (by decide +kernel)
    |three _ hk=>rcases hk with rfl|rfl|rfl<;>exact absurd pe (by decide +kernel)
    |other _ hk=>rcases hk with rfl|rfl|rfl|rfl|rfl<;>exact absurd pe (by decide +kernel)
   ·refine nJ (bR (bb:=false) hw (decide_eq_false pe)) ?_;by_cases hh:kindOf x.1=("heir" : Str)
    ·have es:eQ (ak ab aa) st x=(st.1,dD st.2.1 [.inr (a7 2 x.1),.inr (a7 1 x.1)],dE st.2.1 st.2.2 [.inr (a7 2 x.1),.inr (a7 1 x.1)] (.str (a7 3 x.1))):=by unfold eQ;rw[hc,if_pos rfl,if_neg hn,if_neg pe,if_pos hh]
     rw[es];have O4:au [x.1,.str "office"]=sF (.str (a7 2 x.1))/\au [x.1,.str "by"]=sF (.str (a7 1 x.1))/\au [x.1,.str "person"]=sF (.str (a7 3 x.1)):=by
      obtain⟨a,k,aD,e,d⟩:=gx;rw[e]at hh ⊢;replace hh:k=("heir" : Str):=hh;cases d with
      |heir d b o p=>exact⟨br (i:=2) (bi (by decide +kernel)) rfl,br (i:=1) (bi (by decide +kernel)) rfl,br (i:=3) (bi (by decide +kernel)) rfl⟩
      |root=>exact absurd hh (by decide +kernel)
      |named=>exact absurd hh (by decide +kernel)
      |chosen=>exact absurd hh (by decide +kernel)
      |three _ hk=>rcases hk with rfl|rfl|rfl<;>exact absurd hh (by decide +kernel)
      |other _ hk=>rcases hk with rfl|rfl|rfl|rfl|rfl<;>exact absurd hh (by decide +kernel)
     exact lK (bR (bb:=false) hw (decide_eq_true hh)) (Jh (ks:=st.2.1) (vs:=st.2.2) (kd:=[.str (a7 2 x.1),.str (a7 1 x.1)]) (b:=false) rfl (aJ [x.1,.str "person"] rfl O4.2.2) (aF (aJ [x.1,.str "office"] rfl O4.1) (aF (aJ [x.1,.str "by"] rfl O4.2.1) rfl)) rfl rfl (by have:=h.hk;omega) (by simp))
    ·refine nJ (bR (bb:=false) hw (decide_eq_false hh)) ?_;have es:eQ (ak ab aa) st x=(bZ st.1 (st.1.map Cl.o) (a7 1 x.1) (a9 x.1)++r0 (ak ab aa) st.1 st.2.1 st.2.2 (a7 1 x.1) (a9 x.1) x.2,st.2):=by unfold eQ;rw[hc,if_pos rfl,if_neg hn,if_neg pe,if_neg hh]
     rw[es];have hd:kindOf x.1=("death" : Str):=by
      unfold cM at hc;by_cases hd:kindOf x.1=("death" : Str)
      ·exact hd
      ·rw[if_neg hd,if_neg (by simp[wy,hn,pe,hh])]at hc;cases hc
     refine wj (i:=2) (aJ [.tup ab,.int aa,.lst (st.1.map aR),.dt st.2.1 st.2.2,.int x.2] (by simp) ?_) (jt _);obtain⟨a,k,aD,e,d⟩:=gx;have hk:k=("death" : Str):=by rw[e]at hd;exact hd
     subst hk;obtain⟨dd,p,rfl⟩:=d.deed.three (by decide +kernel);have:=Gd g aa st.1 rX st.2.1 st.2.2 h.hs hx e;rw[this,e];rfl
theorem BW (K:KL):∀(l l0:KL)(st:Oe)(dd:List Str),zv K l0 dd st->((l0++l).map (·.2)).Nodup->∃J9,zv K (l0++l) J9 (l.foldl (eQ K) st)
 |[],l0,st,dd,h,_=>⟨dd,by rw[uQ];exact h⟩
 |x::l,l0,st,dd,h,hn=>by
  have hx:x.2∉l0.map (·.2):=λhm=>by
   rw[uW,List.nodup_append]at hn;exact hn.2.2 _ hm x.2 (by simp) rfl
  obtain⟨J9,h'⟩:=h.step hx;have e:l0++x::l=(l0++[x])++l:=by simp
  rw[e]at hn ⊢;exact BW K l _ _ _ h' hn
theorem BX (K l:KL)(h:(l.map (·.2)).Nodup):∃dd,zv K l dd (mV K l):=by
 have:=BW K l [] ([],[],[]) [] ⟨uN _,by simp,by simp,by simp,by simp,uN _⟩ h;exact this
theorem nV (h:(K.map (·.2)).Nodup):((cI K).map (·.2)).Nodup:=((b9 _ _).map _).nodup_iff.mpr (List.Nodup.sublist (List.Sublist.map _ List.filter_sublist) h)
theorem nW {ab:List D}(g:fQ ab)(aa:Int)(bL:(cI (ak ab aa)).length<=60):kB [.tup ab,.int aa]=some (.lst ((bj (ak ab aa)).map aR),true)/\(bj (ak ab aa)).length<=60:=by
 have eL:dQ [.tup ab,.int aa]=some (.lst ((cI (ak ab aa)).map λx=>.int x.2),true):=oD g aa;generalize hK:ak ab aa=K at bL eL ⊢;have lg:∀x∈cI K,x∈K/\bd x.1=false:=λx hx=>by
  obtain⟨h1,h2⟩:=vN ((b9 _ _).mem_iff.mp hx);exact⟨h1,by simpa using h2⟩
 have JR:((cI K).map (·.2)).Nodup:=nV (by rw[←hK];exact eD ab aa);obtain⟨ρ',e,v4,v5,rfl⟩:=gD (tg:=dA 4) (g:=kW) (λj ρ=>∃v4 v5:Option (D×Bool),ρ=[sF (.tup ab),sF (.int aa),some (.lst ((mV K ((cI K).take j)).1.map aR),true),some (.dt (mV K ((cI K).take j)).2.1 (mV K ((cI K).take j)).2.2,true),v4,v5]) ((cI K).map λx=>.int x.2)
  [sF (.tup ab),sF (.int aa),some (.lst [],true),some (.dt [] [],true),none,none] ⟨none,none,rfl⟩ (by
   rintro j d ρ hd ⟨v4,v5,rfl⟩;rw[vA]at hd;obtain⟨x,hx,rfl⟩:=oY hd;have Yu:j<(cI K).length:=(vV hx).1;have et:(cI K).take (j+1)=(cI K).take j++[x]:=by rw[List.take_add_one,hx];rfl
   have ef:mV K ((cI K).take (j+1))=eQ K (mV K ((cI K).take j)) x:=by rw[et];unfold mV;rw[List.foldl_append];rfl
   obtain⟨NH,Yv⟩:=lg x (vL hx);obtain⟨dd,h⟩:=BX K ((cI K).take j) (List.Nodup.sublist (List.Sublist.map _ (List.take_sublist _ _)) JR);rw[←hK]at h;have jL:=Ji g aa h (by rw[hK,List.length_take];omega) (x:=x) (by rw[hK];exact NH) Yv v5;rw[hK]at jL;obtain⟨w5,jL⟩:=jL;exact⟨_,_,rfl,jL,sF (.int x.2),w5,by rw[ef]⟩)
 have lf:(cI K).take ((cI K).map λx=>D.int x.2).length=cI K:=by rw[vI,List.take_length]
 rw[lf]at e;obtain⟨dd,rX⟩:=BX K (cI K) JR;generalize wM:(mV K (cI K))=st at e rX;have rS:st.1.length<=60:=by have:=rX.len;omega
 have Wd:bj K=dw (λc=>cw (kC c)) st.1:=by unfold bj;rw[wM]
 have hm:∀ρ:DL.Env,jB (sn gE ρ) (st.1.map aR)=some (st.1.map λc=>.tup [.str c.o,.int c.s,.int c.n]):=λρ=>ir st.1 λc _=>by
  show(gE [aR c]).map _=_;rw[wt];rfl
 have hk:dj (st.1.map λc=>D.tup [.str c.o,.int c.s,.int c.n])=some (st.1.map kC):=gh st.1 λc _=>rfl;have jy:(st.1.map kC).length<64/\di (st.1.map kC)=true/\cW (st.1.map kC)=true/\((st.1.map kC).map cw).Nodup:=by
  refine⟨by rw[vI];omega,BV _,?_,?_⟩
  ·unfold cW;rw[Bool.or_eq_true];right;simp[List.all_eq_true,kC]
  ·rw[uP];have h1:st.1.Pairwise λa b=>(a.o,a.n)≠(b.o,b.n):=List.pairwise_map.mp rX.nod;have h2:st.1.Pairwise λa b=>cw (kC a)≠cw (kC b):=by
    refine List.Pairwise.imp_of_mem ?_ h1;intro a b ha hb oM e;exact oM (Ge ha hb e)
   exact List.pairwise_map.mpr h2
 have hz:(st.1.map kC).zip (st.1.map aR)=st.1.map λc=>(kC c,aR c):=by rw[List.zip_map']
 have key:((bj K).map λc=>(kC c,aR c))=dw (λp:List At×D=>cw p.1) (st.1.map λc=>(kC c,aR c)):=by
  rw[Wd];refine ib _ (λx hx y hy e=>?_) ((b9 _ _).map _) ?_
  ·obtain⟨a,ha,rfl⟩:=vO hx;obtain⟨b,hb,rfl⟩:=vO hy;rw[nU (λc:Cl=>(c.o,c.n)) rX.nod ha hb (Ge ha hb e)]
  ·exact List.pairwise_map.mpr (ga _ _)
 refine⟨aw rfl (cx (ds:=[]) (by simp[sizeLine]) rfl (dm (ρ':=[sF (.tup ab),sF (.int aa),some (.lst [],true),some (.dt [] [],true),none,none]) rfl (dm (jD (ds:=(cI K).map λx=>.int x.2) ?_ e) (az ?_)))),by rw[Wd,(b9 _ _).length_eq];exact rS⟩
 ·show(fA dQ (fV 0 (fV 1 ai)) _).bind _=_;rw[aJ [.tup ab,.int aa] rfl eL];rfl
 ·unfold qd;show((some (D.lst (st.1.map aR),false)).bind _)=_;simp only[vJ];rw[hm];simp only[vJ];rw[hk];simp only[vJ];rw[if_pos jy];unfold jn;rw[hz,←key,uP];rfl
end Lw
namespace Lw
open PySem PySem.Spec DL L2
theorem yO (ns:List Int)(k:Nat)(x:Int):∃c:Int,(aA (aQ 2 (f2 bI (f2 fJ (f2 bX (f2 bX (f2 bI (aj 2) (fI 2147483629)) (f2 fJ (fI 6151) (aj 1))) (fI 1)) (fI 48271)) (fI 2147483647)))
  (aZ (f2 bI (f2 fJ (aj 2) (f2 bX (f2 bX (f2 bI (aj 2) (fI 65519)) (aj 1)) (fI 2))) (fI 2147483629)))) [sF (.lst (ns.map .int)),sF (.int k),sF (.int x)]=some (.rt (.int c) false)/\0<=c:=by
 obtain⟨y,hy⟩:∃y,((x % 2147483629+6151*k+1)*48271) % 2147483647=y:=⟨_,rfl⟩;have hb:0<=y/\y<2147483647:=by rw[←hy];exact mod_lt (by decide)
 have hc : -18446744073709551616<y/\y<18446744073709551616:=by omega
 exact⟨(y*(y % 65519+k+2)) % 2147483629,gd (.int y) (by simp[hy]) rfl (az (by simp[hc])),(mod_lt (by decide)).1⟩
theorem gw (ns:List Int)(k:Nat):∃c:Int,cD [.lst (ns.map .int),.int k]=sF (.int c)/\0<=c:=by
 by_cases h:ns.length=0
 ·have e:ns=[]:=List.length_eq_zero_iff.mp h;subst e;obtain⟨c,h1,h2⟩:=yO [] k 5;exact⟨c,aw rfl (gd (.int 5) rfl rfl (aC (de (by simp)) h1)),h2⟩
 ·have hm:=mod_lt (x:=(k:Int)) (m:=ns.length) (by omega);obtain⟨c,h1,h2⟩:=yO ns k (ns.getD ((k:Int) % ns.length).toNat 0);refine⟨c,aw rfl (gd (.int 5) rfl rfl (dm (lK (de (by simp;omega)) (qx (d:=.int (ns.getD ((k:Int) % ns.length).toNat 0)) (b:=false) ?_ rfl)) h1)),h2⟩;refine bD (.lst (ns.map .int)) (.int ((k:Int) % ns.length)) rfl ?_ (BA hm.1 (by omega));refine bD (.int k) (.int ns.length) rfl (by simp) ?_;have oM:¬ns=[]:=λe=>h (by rw[e];rfl);simp[bI,oM]
theorem Gf {ρ:DL.Env}{i n:Nat}{ds:List D}{fk fv:FE}{d:D}{b b':Bool}(e:ρ[i]? = some (some (.lst ds,true)))(ev:fv ρ=some (d,b))(ek:fk ρ=some (.int n,b'))(hn:n<ds.length)(hf:bv d=true):CU i fk fv ρ=some (.nx (ρ.set i (some (.lst (ds.set n d),true)))):=by
 have hx:C9 ds.length (n:Int)=some n:=by
  unfold C9;rw[if_pos (by omega)];simp[hn]
 simp only[CU,e,ev,ek,vJ,hx,if_pos hf]
theorem BY:∀(zs:List Str),(∀z∈zs,z.length=1)->(zs.map (·.length)).sum=zs.length
 |[],_=>rfl
 |z::zs,h=>by
  rw[uY,List.sum_cons,BY zs λy hy=>h y (mZ _ hy),h z mX,vE];omega
theorem BZ (x:Int):0<=x % 26/\x % 26<26:=mod_lt (by decide)
noncomputable def mW:PySem.Str:="abcdefghijklmnopqrstuvwxyz"
theorem Dy:mW.cps.size=26:=by decide +kernel
def Qb (x:Int):Str:=⟨#[mW.cps.toList.getD (x % 26).toNat 0]⟩
theorem Gg (x:Int):bM (.str mW) (.int (x % 26))=sF (.str (Qb x)):=DL.zH (BZ x).1 (by rw[Dy];have:=BZ x;omega) (by decide +kernel)
theorem yP:∀(zs:List Str)(y:Str),(Str.join ("" : Str) (y::zs)).cps.toList=(y::zs).flatMap λz=>z.cps.toList
 |[],y=>by rw[uO,List.flatMap_nil,uQ];rfl
 |z::r,y=>by
  have e3:∀a b:Str,(a++b).cps.toList=a.cps.toList++b.cps.toList:=λa b=>by show(a.cps++b.cps).toList=_;simp
  show(y++("" : Str)++Str.join ("" : Str) (z::r)).cps.toList=_;rw[e3,e3,yP r z,show("" : Str).cps.toList=[]from rfl,uQ];rfl
theorem Gh (h:zs≠[]):(Txt.join ("" : Str) zs).cps.toList=zs.flatMap λz=>z.cps.toList:=by
 cases zs with
 |nil=>exact absurd rfl h
 |cons y zs=>
  unfold Txt.join;rw[StrLaws.glued_eq_join];exact yP zs y
theorem ng (x y:Nat):∀(bs:List Str)(a:Nat),a<bs.length->(∀z∈bs,∃c,z.cps.toList=[c])->((bs.set a ⟨#[x]⟩).flatMap λz=>z.cps.toList)=((bs.set a ⟨#[y]⟩).flatMap λz=>z.cps.toList)->x=y
 |b::bs,0,_,_,h=>by
  rw[List.set_cons_zero,List.set_cons_zero,uO,uO]at h;exact(List.cons.inj h).1
 |b::bs,a+1,hl,hb,h=>by
  rw[List.set_cons_succ,List.set_cons_succ,uO,uO]at h;exact ng x y bs a (by simpa using hl) (λz hz=>hb z (mZ _ hz)) (List.append_cancel_left h)
theorem Gi:∀i j:Fin 26,mW.cps.toList.getD i.val 0=mW.cps.toList.getD j.val 0->i=j:=by decide +kernel
def yQ (bs:List Str)(a:Nat)(c:Int)(i:Nat):Str:=Txt.join ("" : Str) (bs.set a (Qb (c / 64+3*(i:Int))))
theorem KN {bs:List Str}{a:Nat}{c:Int}{i j:Nat}(ha:a<bs.length)(hb:∀z∈bs,∃c,z.cps.toList=[c])(zn:(3*(i:Int) - 3*(j:Int)) % 26≠0):yQ bs a c i≠yQ bs a c j:=by
 intro e;have e:=congrArg (λs:Str=>s.cps.toList) e;unfold yQ at e;have oM:∀x,bs.set a x≠[]:=λx z=>by have:=congrArg List.length z;rw[List.length_set,List.length_nil]at this;omega
 simp only[Gh (oM _)]at e;have:=ng _ _ bs a ha hb e;have h1:=BZ (c / 64+3*(i:Int));have h2:=BZ (c / 64+3*(j:Int));have:=Gi ⟨((c / 64+3*(i:Int)) % 26).toNat,by omega⟩ ⟨((c / 64+3*(j:Int)) % 26).toNat,by omega⟩ this;have:=congrArg Fin.val this;simp only at this;omega
theorem Gj (c:Int)(hc:0<=c):∃zs:List Str,nL [.int c]=some (.lst (zs.map .str),true)/\zs.length=7/\∀x y,zs[5]? = some x->zs[6]? = some y->x≠y:=by
 have h8:=mod_lt (x:=c) (m:=8) (by decide);obtain⟨n,hn⟩:∃n:Nat,1+c % 8=n:=⟨(1+c % 8).toNat,by omega⟩;have RX:1<=n:=by omega
 have Zw:n<=8:=by omega
 let bs:List Str:=(List.range n).map λ(k:Nat)=>Qb (c / (3+4*k));have O5:bs.length=n:=by simp[bs]
 have hb:=mF (fi:=fZ (f2 bX (fI 1) (f2 bI (aj 0) (fI 8)))) (nT:=1) (cap:=[1,0]) (tg:=dA 0) (fe:=f2 bM (aj 1) (f2 bI (f2 cS (aj 2) (f2 bX (fI 3) (f2 fJ (fI 4) (aj 0)))) (fI 26)))
  (ρ:=[sF (.int c),sF (.str mW),none,none,none,none,none]) (List.range n) (λ(k:Nat)=>.int k) (λ(k:Nat)=>.str (Qb (c / (3+4*k))))
  (by rw[gZ (j:=n) (b:=false) (by simp;omega) (by omega),Ds];simp) (by simp;omega) λk hk=>by
   have hk:=List.mem_range.mp hk;refine⟨_,rfl,false,bD (.str mW) (.int (c / (3+4*k) % 26)) (by simp[cA]) ?_ (Gg _)⟩;have h1:(0:Int)<3+4*k:=by omega
   have h2:(3:Int)+4*k<1073741824:=by omega
   simp[cA,h1,h2]
 have Yw:bS (fZ (f2 bX (fI 1) (f2 bI (aj 0) (fI 8)))) 1 [1,0] (dA 0) gz (f2 bM (aj 1) (f2 bI (f2 cS (aj 2) (f2 bX (fI 3) (f2 fJ (fI 4) (aj 0)))) (fI 26))) [sF (.int c),sF (.str mW),none,none,none,none,none]=some (.lst (bs.map .str),true):=by
  rw[hb];simp[bs]
 have Zx:=mod_lt (x:=c / 8) (m:=n) (by omega);obtain⟨a,ha⟩:∃a:Nat,c / 8 % n=a:=⟨(c / 8 % n).toNat,by omega⟩;obtain⟨zs,v5,v6,e,hz,NI⟩:∃(zs:List Str)(v5 v6:Option (D×Bool)),iT (dA 5) lO (fY 0 7) [sF (.int c),sF (.str mW),some (.lst (bs.map .str),true),sF (.int (c / 8 % n)),some (.lst [],true),none,none]=some (.nx [sF (.int c),sF (.str mW),some (.lst (bs.map .str),true),sF (.int (c / 8 % n)),some (.lst (zs.map .str),true),v5,v6])/\zs.length=7/\zs=(List.range 7).map (yQ bs a c):=by
  obtain⟨ρ',e,zs,v5,v6,rfl,hz,NI⟩:=ky (tg:=dA 5) (g:=lO) 7 (λi ρ=>∃(zs:List Str)(v5 v6:Option (D×Bool)),ρ=[sF (.int c),sF (.str mW),some (.lst (bs.map .str),true),sF (.int (c / 8 % n)),some (.lst (zs.map .str),true),v5,v6]/\zs.length=i/\zs=(List.range i).map (yQ bs a c))
   [sF (.int c),sF (.str mW),some (.lst (bs.map .str),true),sF (.int (c / 8 % n)),some (.lst [],true),none,none] ⟨[],none,none,rfl,rfl,rfl⟩ (by
    rintro i ρ hi ⟨zs,v5,v6,rfl,hz,NI⟩;let l:=Qb (c / 64+3*i);let nm:=bs.set a l;have h1:∀z∈nm,z.length=1:=λz hz=>by
     rcases List.mem_or_eq_of_mem_set hz with h|h
     ·obtain⟨k,_,rfl⟩:=vO h;rfl
     ·rw[h];rfl
    have RU:nm.length=n:=by simp[nm,O5]
    refine⟨_,_,rfl,.inl (cx (ds:=bs.map .str) (by simp) (dY _) (dm (Gf (n:=a) (ds:=bs.map .str) (d:=.str l) (b:=false) (b':=false) rfl ?_ ?_ (by simp[O5];omega) rfl) (gK (ds:=zs.map .str) (d:=.str (Txt.join ("" : Str) nm)) (b:=false) rfl ?_ rfl (bA (by simp;omega))))),zs++[Txt.join ("" : Str) nm],sF (.int i),some (.lst (nm.map .str),true),?_,by simp[hz],by rw[NI,List.range_succ,uW];rfl⟩
    ·exact bD (.str mW) (.int ((c / 64+3*i) % 26)) rfl (by simp) (Gg _)
    ·simp[ha]
    ·refine bD (.str "") (.lst (nm.map .str)) rfl (by simp[nm]) ?_;show(fN (nm.map .str)).bind _=_;rw[rh];have:=BY nm h1;have h0:("" : Str).length=0:=rfl;show(if _ then _ else _)=_;rw[if_pos (by rw[this,h0,RU];omega)]
    ·simp[nm])
  exact⟨zs,v5,v6,e,hz,NI⟩
 have hsz:(bs.length:Int)=n:=by omega
 refine⟨if c / 1000 % 8=1 then zs.set 5 (zs.getD 0 ⟨#[]⟩)else zs,?_,by split<;>simp[hz],?_⟩
 refine aw rfl (gd (.str mW) rfl rfl (cx (ds:=bs.map .str) Yw (dY _) (gd (.int (c / 8 % n)) ?_ rfl (cx (ds:=[]) (by simp[sizeLine]) (by simp) (dm (k7 (gZ (j:=7) (b:=false) rfl (by decide)) e) ?_)))))
 ·have:(bs.length:Int)≠0:=by omega
  refine bD (.int (c / 8)) (.int n) (by simp) (by simp[O5]) ?_;have h1:(0:Int)<n:=by omega
  show(if decide ((0:Int)<n)=true then _ else _)=_;rw[if_pos (decide_eq_true h1)]
 ·by_cases h:c / 1000 % 8=1
  ·rw[if_pos h];have h5:5<(zs.map D.str).length:=by simp[hz]
   obtain⟨z0,zr,rfl⟩:∃z0 zr,zs=z0::zr:=by cases zs with|nil=>simp at hz|cons a b=>exact⟨a,b,rfl⟩
   refine dm (lK (de (by simp[h])) (Gf (n:=5) (ds:=(z0::zr).map .str) (d:=.str z0) (b:=false) (b':=false) rfl ?_ rfl h5 rfl)) (px ?_)
   ·exact bD (.lst ((z0::zr).map .str)) (.int 0) rfl rfl (by simp[Hh])
   ·simp
  ·rw[if_neg h];exact aC (de (by simp[h])) (px rfl)
 ·have RV:a<bs.length:=by omega
  have We:∀z∈bs,∃c,z.cps.toList=[c]:=λz hz=>by obtain⟨k,_,rfl⟩:=vO hz;exact⟨_,rfl⟩
  intro x y hx hy;have h0:zs[0]? = some (yQ bs a c 0):=by rw[NI];rfl
  have h5:zs[5]? = some (yQ bs a c 5):=by rw[NI];rfl
  have h6:zs[6]? = some (yQ bs a c 6):=by rw[NI];rfl
  split at hx
  ·rename_i hc8;rw[if_pos hc8,vB (by decide),h6]at hy;rw[List.getElem?_set_self (by omega),vF,h0]at hx;cases hx;cases hy
   exact KN RV We (by decide)
  ·rename_i hc8;rw[if_neg hc8,h6]at hy;rw[h5]at hx;cases hx;cases hy
   exact KN RV We (by decide)
def iG (x:Int×Option Int):D:=.tup [.int x.1,uD x.2]
theorem jv (x:Int×Option Int):bv (iG x)=true:=by simp[iG,BP]
theorem ua (x:Int×Option Int):aq 5 (iG x)=true:=by obtain⟨s,u⟩:=x;cases u<;>simp[iG,uD]
theorem A6 (a d m:Int):∃x,gG [.int a,.int d,.int m]=some (iG x,false):=by
 have h8:=mod_lt (x:=a) (m:=8) (by decide);let L1:List (Int×Option Int):=[(0,none),(d,none),(d,some (d+3*m)),(0,some (d+2*m)),(0,some (9*m))];let L2:List (Int×Option Int):=[(d+m,some (d+4*m)),(d / 2,some (d+6*m)),(0,none)];have z7:∀L:List (Int×Option Int),bz (L.map iG)=true:=λL=>bY λd hd=>by obtain⟨x,_,rfl⟩:=vO hd;exact jv x
 have hi:(a % 8).toNat<((L1++L2).map iG).length:=by show _<8;omega
 refine⟨(L1++L2).getD (a % 8).toNat (0,none),aw rfl (cx (ds:=L1.map iG) (by simp[L1,iG,uD,sizeLine]) (z7 _) (cx (ds:=(L1++L2).map iG) ?_ (z7 _) (az (bD (.lst ((L1++L2).map iG)) (.int (a % 8)) rfl (by simp) ((Aw h8.1 hi).trans ?_)))))⟩
 ·refine iY (x:=.lst (L1.map iG)) (y:=.lst (L2.map iG)) (b1:=false) (b2:=true) rfl (by simp[L2,iG,uD,sizeLine]) ?_;simp[L1,L2,sizeLine]
 ·rw[vF,vA,vF];rw[vI]at hi;rw[vU hi];rfl
theorem kK {zs:List Str}{i:Int}(h1 : -(zs.length:Int)<=i)(h2:i<zs.length):∃z∈zs,bM (.lst (zs.map .str)) (.int i)=sF (.str z):=by
 obtain⟨j,hj,hl⟩:∃j,C9 (zs.map D.str).length i=some j/\j<zs.length:=by
  unfold C9;rw[vI];by_cases h0:0<=i
  ·rw[if_pos h0,if_pos h2];exact⟨_,rfl,by omega⟩
  ·rw[if_neg h0,if_pos (by omega)];exact⟨_,rfl,by omega⟩
 refine⟨zs[j],List.getElem_mem hl,?_⟩;have:oj (zs.map D.str) i=some (.str zs[j]):=by unfold oj;rw[hj,vJ,vA,vU hl];rfl
 simp[this]
noncomputable def MR:List Nat:=[7,255,3,15]
noncomputable def MS:List Nat:=[1,2,3,4,5,7,128,255]
inductive Dd:Str->List D->Prop
 |root (o r:Str) (m:Nat) (hm:m∈MR) (f:Int):Dd ("root" : Str) [.str o,.int m,.int f,.str r]
 |named (d:Int) (o p:Str):Dd ("named" : Str) [.int d,.str o,.str p]
 |chosen (d:Int) (b o p:Str) (s:Int):Dd ("chosen" : Str) [.int d,.str b,.str o,.str p,.int s]
 |heir (d:Int) (b o p:Str):Dd ("heir" : Str) [.int d,.str b,.str o,.str p]
 |three (k:Str) (hk:k=("death" : Str)∨k=("lost" : Str)∨k=("found" : Str)) (d:Int) (p:Str):Dd k [.int d,.str p]
 |leave (d:Int) (b p:Str) (m:Nat) (hm:m∈MS) (x:Int×Option Int) (f:Int):Dd ("leave" : Str) [.int d,.str b,.str p,.int m,iG x,.int f]
 |paper (k:Str) (hk:k=("paper" : Str)∨k=("like" : Str)) (d:Int) (b:Str) (m:Nat) (hm:m∈MS) (x:Int×Option Int) (r:List D) (hf:bz r=true) (hp:r.all (aq 5)=true):Dd k (.int d::.str b::.int m::iG x::r)
 |copy (k:Str) (hk:k=("copy" : Str)∨k=("call" : Str)) (d:Int) (b:Str) (n:Nat):Dd k [.int d,.str b,.int n]
theorem Dd.cd (h:Dd k r):Cd k r:=by
 cases h with
 |root o r m hm f=>exact .root _ _ _ _
 |named d o p=>exact .named _ _ _
 |chosen d b o p s=>exact .chosen _ _ _ _ _
 |heir d b o p=>exact .heir _ _ _ _
 |three k hk d p=>exact .three _ hk _ _
 |leave d b p m hm x f=>exact .other _ (.inl rfl) _ _ _ (by simp[jv]) (by simp only[List.all_cons,List.all_nil,ua,aq,Bool.and_true])
 |paper k hk d b m hm x r hf hp=>exact .other _ (hk.elim (λh=>.inr (.inl h)) λh=>.inr (.inr (.inl h))) _ _ _ (by simp[hf,jv]) (by simp only[List.all_cons,hp,ua,aq,Bool.and_true])
 |copy k hk d b n=>exact .other _ (hk.elim (λh=>.inr (.inr (.inr (.inl h)))) λh=>.inr (.inr (.inr (.inr h)))) _ _ _ rfl (by simp)
theorem Dd.had3 (h:Dd k r)(hk:k=("leave" : Str)∨k=("named" : Str)):∃p,r[2]? = some (.str p):=by
 have hk:k∈[("leave" : Str),("named" : Str)]:=by simpa using hk
 cases h with
 |named d o p=>exact⟨p,rfl⟩
 |leave d b p=>exact⟨p,rfl⟩
 |root=>exact absurd hk (by decide +kernel)
 |chosen=>exact absurd hk (by decide +kernel)
 |heir=>exact absurd hk (by decide +kernel)
 |three k fG=>rcases fG with rfl|rfl|rfl<;>exact absurd hk (by decide +kernel)
 |paper k fG=>rcases fG with rfl|rfl<;>exact absurd hk (by decide +kernel)
 |copy k fG=>rcases fG with rfl|rfl<;>exact absurd hk (by decide +kernel)
theorem Dd.had4 (h:Dd k r)(hk:k=("chosen" : Str)):∃p,r[3]? = some (.str p):=by
 cases h with
 |chosen d b o p=>exact⟨p,rfl⟩
 |root=>exact absurd hk (by decide +kernel)
 |named=>exact absurd hk (by decide +kernel)
 |leave=>exact absurd hk (by decide +kernel)
 |heir=>exact absurd hk (by decide +kernel)
 |three k fG=>rcases fG with rfl|rfl|rfl<;>exact absurd hk (by decide +kernel)
 |paper k fG=>rcases fG with rfl|rfl<;>exact absurd hk (by decide +kernel)
 |copy k fG=>rcases fG with rfl|rfl<;>exact absurd hk (by decide +kernel)
theorem Dd.flat (h:Dd k r):bz r=true:=h.cd.deed.flat
noncomputable def fL:List Str:=[("leave" : Str),("leave" : Str),("leave" : Str),("leave" : Str),("leave" : Str),("paper" : Str),("paper" : Str),("like" : Str),("copy" : Str),("copy" : Str),("call" : Str),("call" : Str),("named" : Str),("death" : Str),("lost" : Str),("found" : Str),("chosen" : Str),("heir" : Str)]
theorem Dz (h:w∈fL):w=("leave" : Str)∨w=("paper" : Str)∨w=("like" : Str)∨w=("copy" : Str)∨w=("call" : Str)∨w=("named" : Str)∨w=("death" : Str)∨w=("lost" : Str)∨w=("found" : Str)∨w=("chosen" : Str)∨w=("heir" : Str):=by
 simp only[fL,List.mem_cons,List.not_mem_nil,or_false]at h;rcases h with rfl|rfl|rfl|rfl|rfl|rfl|rfl|rfl|rfl|rfl|rfl|rfl|rfl|rfl|rfl|rfl|rfl|rfl<;>simp
theorem Gk (many c o day m:Int)(zs iE:List Str)(hz:zs.length=7)(hh:iE≠[]):
  ∃(w oN p:Str)(Lj:Nat),w∈fL/\∀(h:FS)(r:Option Res),h [sF (.int many),sF (.int c),sF (.int o),sF (.lst (zs.map .str)),sF (.int day),sF (.lst (iE.map .str)),sF (.int m),some (.lst (fL.map .str),true),sF (.str w),sF (.str oN),sF (.str p),sF (.int Lj),none,none,none]=r ->
   (aA (aQ 7 (f2 bX (f2 bX (Dk (fA bH (af (fS ("leave" : Str)) ai)) (fI 5)) (Dk (fA bH (af (fS ("paper" : Str)) ai)) (fI 2))) (fA bH (af (fS ("like" : Str)) (af (fS ("copy" : Str)) (af (fS ("copy" : Str)) (af (fS ("call" : Str)) (af (fS ("call" : Str)) ai)))))))) (aA (aQ 7 (f2 bX (aj 7) (fA bH (af (fS ("named" : Str)) (af (fS ("death" : Str)) (af (fS ("lost" : Str)) (af (fS ("found" : Str)) (af (fS ("chosen" : Str)) (af (fS ("heir" : Str)) ai))))))))) (aA (aQ 8 (f2 bM (aj 7) (f2 bI (aj 1) (fI 18)))) (aA (aQ 9 (f2 bM (aj 5) (f2 zR (f1 pF (fI 1)) (f2 bI (f2 cS (aj 1) (fI 18)) (fA Io (af (fI 3) (af (fA hZ (fV 5 ai)) ai))))))) (aA (eG (bw (f2 dG (f2 bI (f2 cS (aj 1) (fI 54)) (fI 6)) (fI 1))) (aQ 9 (f2 bM (aj 3) (f2 bI (f2 cS (aj 1) (fI 324)) (fI 5)))) bp) (aA (aQ 10 (f2 bM (aj 3) (f2 bI (f2 cS (aj 1) (fI 1620)) (fI 5)))) (aA (aQ 11 (fA Im (af (fI 0) (af (f2 zR (f2 zR (aj 0) (fI 1)) (f2 bI (aj 2) (fI 4))) ai)))) (aA (eG (bw (f2 dG (f2 bI (f2 cS (aj 2) (fI 4)) (fI 8)) (fI 1))) (aQ 11 (f2 bI (f2 cS (aj 2) (fI 32)) (fI 60))) bp) h)))))))) [sF (.int many),sF (.int c),sF (.int o),sF (.lst (zs.map .str)),sF (.int day),sF (.lst (iE.map .str)),sF (.int m),none,none,none,none,none,none,none,none]=r:=by
 have Zy:=mod_lt (x:=c) (m:=18) (by decide);obtain⟨w,hw,ew⟩:=kK (zs:=fL) (i:=c % 18) (by simp[fL];omega) (by simp[fL];omega);obtain⟨n,hn,RX,Zz⟩:∃n:Int,(if(iE.length:Int)<3 then (iE.length:Int)else 3)=n/\0<n/\n<=iE.length:=by
  have:0<iE.length:=List.length_pos_iff.mpr hh;split
  ·exact⟨_,rfl,by omega,by omega⟩
  ·exact⟨_,rfl,by omega,by omega⟩
 have Z0:=mod_lt (x:=c / 18) (m:=n) RX;obtain⟨b0,_,Yx⟩:=kK (zs:=iE) (i:=-1 - c / 18 % n) (by omega) (by omega);have h5:=mod_lt (x:=c / 324) (m:=5) (by decide);obtain⟨b1,_,Yy⟩:=kK (zs:=zs) (i:=c / 324 % 5) (by omega) (by omega);have Z1:=mod_lt (x:=c / 1620) (m:=5) (by decide);obtain⟨p,_,ep⟩:=kK (zs:=zs) (i:=c / 1620 % 5) (by omega) (by omega);have Z2:=mod_lt (x:=o / 32) (m:=60) (by decide);obtain⟨f0,Yz⟩:∃f0:Nat,(if many - 1 - o % 4 > 0 then many - 1 - o % 4 else 0)=(f0:Int):=by
  split
  ·exact⟨(many - 1 - o % 4).toNat,by omega⟩
  ·exact⟨0,rfl⟩
 obtain⟨f1,Y0⟩:∃f1:Nat,o / 32 % 60=(f1:Int):=⟨(o / 32 % 60).toNat,by omega⟩;refine⟨w,if c / 54 % 6=1 then b1 else b0,p,if o / 4 % 8=1 then f1 else f0,hw,λh r hr=>?_⟩;refine cx (ds:=(fL.take 12).map .str) ?_ (dY _) (cx (ds:=fL.map .str) ?_ (dY _) (gd (.str w) (bD (.lst (fL.map .str)) (.int (c % 18)) rfl (by simp) ew) rfl (gd (.str b0) ?_ rfl (dm (ρ':=[sF (.int many),sF (.int c),sF (.int o),sF (.lst (zs.map .str)),sF (.int day),sF (.lst (iE.map .str)),sF (.int m),some (.lst (fL.map .str),true),sF (.str w),sF (.str (if c / 54 % 6=1 then b1 else b0)),none,none,none,none,none]) ?_ (gd (.str p) ?_ rfl (gd (.int f0) ?_ rfl (dm ?_ hr)))))))
 ·have e1:∀(s:Str)(k:Nat),k<=100->Dk (fA bH (af (fS s) ai)) (fC (.int k)) [sF (.int many),sF (.int c),sF (.int o),sF (.lst (zs.map .str)),sF (.int day),sF (.lst (iE.map .str)),sF (.int m),none,none,none,none,none,none,none,none]=some (.lst (List.replicate k (.str s)),true):=λs k hk=>by
   have h1:(k:Int)<=1000:=by omega
   have h2:k<=1000:=by omega
   have h3:∀n:Nat,(List.replicate n [D.str s]).flatten=List.replicate n (.str s):=λn=>by
    induction n with
    |zero=>rfl
    |succ n ih=>rw[List.replicate_succ,List.flatten_cons,ih,List.replicate_succ];rfl
   simp[sizeLine,h1,h2,h3]
  have z:∀n:Nat,n<=100->n<=sizeLine:=λn h=>dP (by omega);refine iY (x:=.lst ((fL.take 7).map .str)) (y:=.lst (((fL.drop 7).take 5).map .str)) (b1:=true) (b2:=true) (iY (x:=.lst ((fL.take 5).map .str)) (y:=.lst (List.replicate 2 (.str "paper"))) (b1:=true) (b2:=true) (e1 _ 5 (by decide)) (e1 _ 2 (by decide)) ?_) (aJ (((fL.drop 7).take 5).map .str) rfl (gk _ (by simp[fL]))) ?_
  ·refine(if_pos (c:=7<=sizeLine) (e:=none) (z 7 (by decide))).trans ?_;rfl
  ·refine(if_pos (c:=12<=sizeLine) (e:=none) (z 12 (by decide))).trans ?_;rfl
 ·refine iY (x:=.lst ((fL.take 12).map .str)) (y:=.lst ((fL.drop 12).map .str)) (b1:=false) (b2:=true) rfl (aJ ((fL.drop 12).map .str) rfl (gk _ (by decide))) ?_;refine(if_pos (c:=18<=sizeLine) (e:=none) (dP (by decide))).trans ?_;rfl
 ·refine bD (.lst (iE.map .str)) (.int (-1 - c / 18 % n)) rfl ?_ Yx;refine bD (.int (-1)) (.int (c / 18 % n)) rfl ?_ rfl;refine bD (.int (c / 18)) (.int n) (by simp) (by simp[hn]) ?_;show(if decide ((0:Int)<n)=true then _ else _)=_;rw[if_pos (decide_eq_true RX)]
 ·by_cases hx:c / 54 % 6=1
  ·rw[if_pos hx];exact lK (de (by simp[hx])) (qx (d:=.str b1) (b:=false) (bD (.lst (zs.map .str)) (.int (c / 324 % 5)) rfl (by simp) Yy) rfl)
  ·rw[if_neg hx];exact nJ (de (by simp[hx])) rfl
 ·exact bD (.lst (zs.map .str)) (.int (c / 1620 % 5)) rfl (by simp) ep
 ·show some (D.int (if many - 1 - o % 4 > 0 then many - 1 - o % 4 else 0),false)=_;rw[Yz]
 ·by_cases hx:o / 4 % 8=1
  ·simp only[if_pos hx];exact lK (de (by simp[hx])) (qx (d:=.int f1) (b:=false) (by simp[Y0]) rfl)
  ·simp only[if_neg hx];exact nJ (de (by simp[hx])) rfl
theorem oG {ns:List Int}{i:Int}(h1:0<=i)(h2:i<ns.length):∃m∈ns,bM (.lst (ns.map .int)) (.int i)=sF (.int m):=by
 have h:i.toNat<ns.length:=by omega
 refine⟨ns.getD i.toNat 0,?_,BA h1 h⟩;rw[vF,vU h];exact List.getElem_mem h
theorem lS (h : -1000<=a/\a<=1000):Mi (.int a) (.int b)=sF (.int (a*b)):=by
 have : -18446744073709551616<a/\a<18446744073709551616:=by omega
 simp[this]
theorem dc (e:ρ[i]? = some (sF (.str a)))(h:decide (a=b)=false:=by decide +kernel):bw (f2 dG (aj i) (fS b)) ρ=some false:=bR (a:=a) (bb:=false) (by simp[e]) h
theorem A7 (e:ρ[i]? = some (sF (.str a)))(h:decide (a=b)=true:=by decide +kernel):bw (f2 dG (aj i) (fS b)) ρ=some true:=bR (a:=a) (bb:=false) (by simp[e]) h
theorem yR (x:Bool)(e:ρ[i]? = some (sF (.str a)))(h:decide (a∈[b,c])=x:=by decide +kernel):bw (f2 xE (aj i) (fA aV (af (fS b) (af (fS c) ai)))) ρ=some x:=de (bD (.str a) (.tup ([b,c].map .str)) (by simp[e]) (by simp[sizeLine]) (by rw[iq,h]))
theorem KO {l:List Int}{x:Int}(h:x∈l)(hl:l.all (λy=>decide (0<=y/\y.toNat∈MS))=true):∃m:Nat,x=m/\m∈MS:=by
 have:=of_decide_eq_true (uR hl x h);exact⟨x.toNat,by omega,this.2⟩
theorem Jj (many c o day m:Int)(zs iE:List Str)(hz:zs.length=7)(hh:iE≠[]):
  ∃k r,qQ [.int many,.int c,.int o,.lst (zs.map .str),.int day,.lst (iE.map .str),.int m]=sF (.tup (.str k::r))/\Dd k r/\k≠("root" : Str):=by
 obtain⟨w,oN,p,Lj,hw,pre⟩:=Gk many c o day m zs iE hz hh;obtain⟨s,es⟩:=A6 (o / 32) day m;have h8:=mod_lt (x:=c / 8100) (m:=8) (by decide);obtain⟨Z3,Ur,Y1⟩:=oG (ns:=[3,1,7,2,255,5,1,3]) (i:=c / 8100 % 8) h8.1 h8.2;obtain⟨Z4,Us,Wf⟩:=oG (ns:=[1,1,3,2,4,5,128,7]) (i:=c / 8100 % 8) h8.1 h8.2;obtain⟨m1,rfl,Ow⟩:=KO Ur (by decide);obtain⟨m2,rfl,Ut⟩:=KO Us (by decide);have h4:=mod_lt (x:=o / 2560) (m:=4) (by decide);obtain⟨dv,Uu,ed⟩:=oG (ns:=[5,5,5,10]) (i:=o / 2560 % 4) h4.1 h4.2;have O0:0<dv:=by simp only[List.mem_cons,List.not_mem_nil,or_false]at Uu;omega
 have h2:=mod_lt (x:=o / 256) (m:=2) (by decide);obtain⟨wv,Y2,RY,Wg⟩:∃wv,bM (.lst [.non,.str p]) (.int (o / 256 % 2))=some (wv,false)/\bv wv=true/\aq 5 wv=true:=by
  rcases (show o / 256 % 2=0∨o / 256 % 2=1 by omega)with h|h
  ·rw[h];exact⟨.non,by simp[Hh],rfl,by simp⟩
  ·rw[h];exact⟨.str p,by simp[Hi],rfl,by simp⟩
 have DE:=mod_lt (x:=o) (m:=2) (by decide);have Om:=mod_lt (x:=o) (m:=2) (by decide);obtain⟨QY,_,eo⟩:=kK (zs:=zs) (i:=5+o % 2) (by omega) (by omega);obtain⟨QZ,_,Y3⟩:=kK (zs:=zs) (i:=5+o % 2) (by omega) (by omega);have Z5:=mod_lt (x:=o / 32) (m:=3) (by decide);have Uv:∀(ρ:DL.Env),ρ[2]? = some (sF (.int o))->ρ[4]? = some (sF (.int day))->ρ[6]? = some (sF (.int m))->fA gG (af (f2 cS (aj 2) (fI 32)) (fV 4 (fV 6 ai))) ρ=some (iG s,false):=λρ q1 q2 q3=>
  aJ [.int (o / 32),.int day,.int m] (by simp[q1,q2,q3]) es
 have Ra:∀(ρ:DL.Env),ρ[2]? = some (sF (.int o))->ρ[3]? = some (sF (.lst (zs.map .str)))->f2 bM (aj 3) (f2 bX (fI 5) (f2 bI (aj 2) (fI 2))) ρ=sF (.str QY):=λρ q1 q2=>bD (.lst (zs.map .str)) (.int (5+o % 2)) (by simp[q2]) (by simp[q1]) eo;have Uw:∀(ns:List Int)(M:Nat)(ρ:DL.Env)(fl:FE),fl ρ=some (.lst (ns.map .int),true)->ρ[1]? = some (sF (.int c))->bM (.lst (ns.map .int)) (.int (c / 8100 % 8))=sF (.int M)->f2 bM fl (f2 bI (f2 cS (aj 1) (fI 8100)) (fI 8)) ρ=sF (.int M):=λns M ρ fl e1 q e=>iY (x:=.lst (ns.map .int)) (y:=.int (c / 8100 % 8)) (b1:=true) (b2:=false) e1 (by simp[q]) e;have Wh:∀(ρ:DL.Env),ρ[2]? = some (sF (.int o))->ρ[10]? = some (sF (.str p))->f2 bM (fA bH (af (fC .non) (fV 10 ai))) (f2 bI (f2 cS (aj 2) (fI 256)) (fI 2)) ρ=some (wv,false):=λρ q1 q2=>iY (x:=.lst [.non,.str p]) (y:=.int (o / 256 % 2)) (b1:=true) (b2:=false) (by simp[sizeLine,q2]) (by simp[q1]) Y2;rcases Dz hw with rfl|rfl|rfl|rfl|rfl|rfl|rfl|rfl|rfl|rfl|rfl
 ·refine⟨_,[.int day,.str oN,.str p,.int m1,iG s,.int (o / 256 % dv)],aw rfl (pre _ _ ?_),.leave _ _ _ _ Ow _ _,by decide +kernel⟩;refine bF (A7 rfl) (gd (.int m1) (Uw [3,1,7,2,255,5,1,3] _ _ _ (by simp[sizeLine]) rfl Y1) rfl (gd (.int (o / 256 % dv)) ?_ rfl (az (aJ [.str "leave",.int day,.str oN,.str p,.int m1,iG s,.int (o / 256 % dv)] (cj rfl (cj rfl (cj rfl (cj rfl (cj rfl (aF (Uv _ rfl rfl rfl) (cj rfl rfl))))))) (cy _ (by simp))))));refine bD (.int (o / 256)) (.int dv) (by simp) (iY (x:=.lst (([5,5,5,10]:List Int).map .int)) (y:=.int (o / 2560 % 4)) (b1:=true) (b2:=false) (by simp[sizeLine]) (by simp) ed) ?_;show(if decide ((0:Int)<dv)=true then _ else _)=_;rw[if_pos (decide_eq_true O0)]
 ·refine⟨_,[.int day,.str oN,.int m2,iG s,wv,.tup [.str p]],aw rfl (pre _ _ ?_),.paper _ (.inl rfl) _ _ _ Ut _ _ (by simp[RY]) (by simp[Wg]),by decide +kernel⟩;exact aC (dc rfl) (bF (cY (p:=true) (q:=false) (A7 rfl) λ_=>dc rfl) (gd (.int m2) (Uw [1,1,3,2,4,5,128,7] _ _ _ (by simp[sizeLine]) rfl Wf) rfl (gd (.tup [.str "paper",.int day,.str oN,.int m2,iG s,wv]) (aJ [.str "paper",.int day,.str oN,.int m2,iG s,wv] (cj rfl (cj rfl (cj rfl (cj rfl (aF (Uv _ rfl rfl rfl) (aF (Wh _ rfl rfl) rfl)))))) (cy _ (by simp))) (by simp[jv,RY]) (aC (dc rfl) (az (bD (.tup [.str "paper",.int day,.str oN,.int m2,iG s,wv]) (.tup [.tup [.str p]]) rfl (by simp[sizeLine]) (by simp[sizeLine])))))))
 ·refine⟨_,[.int day,.str oN,.int m2,iG s,wv,.int Lj,.tup [.tup [.int 0,.str p]]],aw rfl (pre _ _ ?_),.paper _ (.inr rfl) _ _ _ Ut _ _ (by simp[RY]) (by simp[Wg]),by decide +kernel⟩;exact aC (dc rfl) (bF (cY (p:=false) (q:=true) (dc rfl) λ_=>A7 rfl) (gd (.int m2) (Uw [1,1,3,2,4,5,128,7] _ _ _ (by simp[sizeLine]) rfl Wf) rfl (gd (.tup [.str "like",.int day,.str oN,.int m2,iG s,wv]) (aJ [.str "like",.int day,.str oN,.int m2,iG s,wv] (cj rfl (cj rfl (cj rfl (cj rfl (aF (Uv _ rfl rfl rfl) (aF (Wh _ rfl rfl) rfl)))))) (cy _ (by simp))) (by simp[jv,RY]) (bF (A7 rfl) (az (bD (.tup [.str "like",.int day,.str oN,.int m2,iG s,wv]) (.tup [.int Lj,.tup [.tup [.int 0,.str p]]]) rfl (by simp[sizeLine]) (by simp[sizeLine])))))))
 ·exact⟨_,[.int day,.str oN,.int Lj],aw rfl (pre _ _ (aC (dc rfl) (aC (cY (p:=false) (q:=false) (dc rfl) λ_=>dc rfl) (bF (yR true rfl) (az (aJ [.str "copy",.int day,.str oN,.int Lj] rfl (cy _ (by simp)))))))),.copy _ (.inl rfl) _ _ _,by decide +kernel⟩
 ·exact⟨_,[.int day,.str oN,.int Lj],aw rfl (pre _ _ (aC (dc rfl) (aC (cY (p:=false) (q:=false) (dc rfl) λ_=>dc rfl) (bF (yR true rfl) (az (aJ [.str "call",.int day,.str oN,.int Lj] rfl (cy _ (by simp)))))))),.copy _ (.inr rfl) _ _ _,by decide +kernel⟩
 ·exact⟨_,[.int day,.str QY,.str p],aw rfl (pre _ _ (aC (dc rfl) (aC (cY (p:=false) (q:=false) (dc rfl) λ_=>dc rfl) (aC (yR false rfl) (bF (A7 rfl) (az (aJ [.str "named",.int day,.str QY,.str p] (cj rfl (cj rfl (aF (Ra _ rfl rfl) (cj rfl rfl)))) (cy _ (by simp))))))))),.named _ _ _,by decide +kernel⟩
 ·exact⟨_,[.int day,.str oN],aw rfl (pre _ _ (aC (dc rfl) (aC (cY (p:=false) (q:=false) (dc rfl) λ_=>dc rfl) (aC (yR false rfl) (aC (dc rfl) (aC (dc rfl) (aC (dc rfl) (az (aJ [.str "death",.int day,.str oN] rfl (cy _ (by simp))))))))))),.three _ (.inl rfl) _ _,by decide +kernel⟩
 ·exact⟨_,[.int day,.str oN],aw rfl (pre _ _ (aC (dc rfl) (aC (cY (p:=false) (q:=false) (dc rfl) λ_=>dc rfl) (aC (yR false rfl) (aC (dc rfl) (aC (dc rfl) (aC (dc rfl) (az (aJ [.str "lost",.int day,.str oN] rfl (cy _ (by simp))))))))))),.three _ (.inr (.inl rfl)) _ _,by decide +kernel⟩
 ·exact⟨_,[.int day,.str oN],aw rfl (pre _ _ (aC (dc rfl) (aC (cY (p:=false) (q:=false) (dc rfl) λ_=>dc rfl) (aC (yR false rfl) (aC (dc rfl) (aC (dc rfl) (aC (dc rfl) (az (aJ [.str "found",.int day,.str oN] rfl (cy _ (by simp))))))))))),.three _ (.inr (.inr rfl)) _ _,by decide +kernel⟩
 ·refine⟨_,[.int day,.str oN,.str QZ,.str p,.int (day+o / 32 % 3*m)],aw rfl (pre _ _ (aC (dc rfl) (aC (cY (p:=false) (q:=false) (dc rfl) λ_=>dc rfl) (aC (yR false rfl) (aC (dc rfl) (bF (A7 rfl) (az (aJ [.str "chosen",.int day,.str oN,.str QZ,.str p,.int (day+o / 32 % 3*m)] ?_ (cy _ (by simp)))))))))),.chosen _ _ _ _ _,by decide +kernel⟩;exact cj rfl (cj rfl (cj rfl (aF (bD (.lst (zs.map .str)) (.int (5+o % 2)) rfl (by simp) Y3) (cj rfl (cj (bD (.int day) (.int (o / 32 % 3*m)) rfl (bD (.int (o / 32 % 3)) (.int m) (by simp) rfl (lS (by omega))) rfl) rfl)))))
 ·exact⟨_,[.int day,.str oN,.str QY,.str p],aw rfl (pre _ _ (aC (dc rfl) (aC (cY (p:=false) (q:=false) (dc rfl) λ_=>dc rfl) (aC (yR false rfl) (aC (dc rfl) (aC (dc rfl) (bF (A7 rfl) (az (aJ [.str "heir",.int day,.str oN,.str QY,.str p] (cj rfl (cj rfl (cj rfl (aF (Ra _ rfl rfl) (cj rfl rfl))))) (cy _ (by simp))))))))))),.heir _ _ _ _,by decide +kernel⟩
def c7 (r:D):Prop:=∃h k aD,r=row h k aD/\Dd k aD
theorem c7.c (g:c7 r):wq r:=by obtain⟨h,k,aD,e,d⟩:=g;exact⟨h,k,aD,e,d.cd⟩
theorem c7.flat (g:c7 r):bv r=true:=g.c.rp.flat
theorem Qc (c1 m most:Int)(xs zs iE:List Str)(ns:List Int)(ab:List D)(hz:zs.length=7)(i:Nat)(hi:i<2)(hr:ab.length<=100)(hh:iE.length<=100)(v8 v9 rY GV:Option (D×Bool)):
  ∃r1 r2 p w8 w9 GW Ux,(c7 r1/\bd r1=true/\zs[5+i]? = some (a7 0 r1))/\(c7 r2/\bd r2=false)/\nM [sF (.lst (ns.map .int)),sF (.lst (zs.map .str)),sF (.int m),sF (.int most),sF (.int c1),some (.lst ab,true),some (.lst (iE.map .str),true),sF (.int i),v8,v9,rY,GV,none,none,none]
   = some (.nx [sF (.lst (ns.map .int)),sF (.lst (zs.map .str)),sF (.int m),sF (.int most),sF (.int c1),some (.lst (ab++[r1]++[r2]),true),some (.lst ((iE++[p]).map .str),true),sF (.int i),w8,w9,GW,Ux,none,none,none]):=by
 have h3:=mod_lt (x:=c1 / (64+9*i)) (m:=3) (by decide);obtain⟨rl,_,Y4⟩:=kK (zs:=[("open" : Str),("first" : Str),("last" : Str)]) (i:=c1 / (64+9*i) % 3) (by simp;omega) (by simp;omega);have h4:=mod_lt (x:=c1 / (2+8*i)) (m:=4) (by decide);obtain⟨Y5,Rb,Uy⟩:=oG (ns:=[7,255,3,15]) (i:=c1 / (2+8*i) % 4) h4.1 h4.2;obtain⟨mt,Uz,Y6⟩:∃mt:Nat,Y5=mt/\mt∈MR:=by
  simp only[List.mem_cons,List.not_mem_nil,or_false]at Rb;rcases Rb with rfl|rfl|rfl|rfl<;>first|exact⟨7,rfl,by decide⟩|exact⟨255,rfl,by decide⟩|exact⟨3,rfl,by decide⟩|exact⟨15,rfl,by decide⟩
 have Wi:=Uy;rw[Uz]at Wi;have RM:=mod_lt (x:=c1 / (31+i)) (m:=3) (by decide);obtain⟨dv,Uu,ed⟩:=oG (ns:=[5,5,10]) (i:=c1 / (31+i) % 3) RM.1 RM.2;have O0:0<dv:=by simp only[List.mem_cons,List.not_mem_nil,or_false]at Uu;omega
 obtain⟨of,Y7,Wj⟩:∃of,zs[5+i]? = some of/\bM (.lst (zs.map .str)) (.int (5+i))=sF (.str of):=by
  have hl:5+i<zs.length:=by omega
  refine⟨zs[5+i],vU hl,?_⟩;have AI:((5:Int)+i).toNat<(zs.map D.str).length:=by rw[vI];omega
  rw[DL.Aw (by omega) AI,show((5:Int)+i).toNat=5+i by omega,vF,vA,vU hl];rfl
 obtain⟨pn,_,Wk⟩:=kK (zs:=zs) (i:=i) (by omega) (by omega);have Y8:(0:Int)<64+9*i/\(64:Int)+9*i<1073741824:=by omega
 have b2:(0:Int)<2+8*i/\(2:Int)+8*i<1073741824:=by omega
 have U0:(0:Int)<512+i/\(512:Int)+i<1073741824:=by omega
 have Rc:(0:Int)<1024+5*i/\(1024:Int)+5*i<1073741824:=by omega
 have Y9:(0:Int)<31+i/\(31:Int)+i<1073741824:=by omega
 let t:Int:=if c1 / (512+i) % 8=1 then 1 else 0;have ht:0<=t/\t<=1:=by show 0<=(if _ then (1:Int)else 0)/\(if _ then (1:Int)else 0)<=1;split<;>omega
 refine⟨row (t*4*m) ("root" : Str) [.str of,.int mt,.int (c1 / (1024+5*i) % dv),.str rl],row 0 ("named" : Str) [.int 0,.str of,.str pn],pn,sF (.str rl),sF (.int mt),sF (.int (t*4*m)),sF (.int (c1 / (1024+5*i) % dv)),⟨⟨_,_,_,rfl,.root _ _ _ Y6 _⟩,decide_eq_true rfl,Y7⟩,⟨⟨_,_,_,rfl,.named _ _ _⟩,show decide (("named" : Str)=("root" : Str))=false by decide +kernel⟩,?_⟩;refine gd (.str rl) ?_ rfl (gd (.int mt) ?_ rfl (gd (.int (t*4*m)) ?_ rfl (gd (.int (c1 / (1024+5*i) % dv)) ?_ rfl (KE (ds:=ab) (d:=row (t*4*m) ("root" : Str) [.str of,.int mt,.int (c1 / (1024+5*i) % dv),.str rl]) (b:=false) rfl ?_ rfl (bA (by omega)) (KE (ds:=ab++[row (t*4*m) ("root" : Str) [.str of,.int mt,.int (c1 / (1024+5*i) % dv),.str rl]]) (d:=row 0 ("named" : Str) [.int 0,.str of,.str pn]) (b:=false) rfl ?_ rfl (bA (by simp;omega)) ((gK (ds:=iE.map .str) (d:=.str pn) (b:=false) rfl ?_ rfl (bA (by simp;omega))).trans ?_))))))
 ·exact iY (x:=.lst (([("open" : Str),("first" : Str),("last" : Str)]:List Str).map .str)) (y:=.int (c1 / (64+9*i) % 3)) (b1:=true) (b2:=false) (by simp[sizeLine]) (by simp[Y8]) Y4
 ·exact iY (x:=.lst (([7,255,3,15]:List Int).map .int)) (y:=.int (c1 / (2+8*i) % 4)) (b1:=true) (b2:=false) (by simp[sizeLine]) (by simp[b2]) Wi
 ·refine bD (.int (t*4)) (.int m) (bD (.int t) (.int 4) ?_ rfl (by simp)) rfl (lS (by omega));refine aJ [.bl (decide (c1 / (512+i) % 8=1))] (cj (bD (.int (c1 / (512+i) % 8)) (.int 1) (by simp[U0]) rfl (by simp)) rfl) ?_;simp[t]
 ·refine bD (.int (c1 / (1024+5*i))) (.int dv) (by simp[Rc]) (iY (x:=.lst (([5,5,10]:List Int).map .int)) (y:=.int (c1 / (31+i) % 3)) (b1:=true) (b2:=false) (by simp[sizeLine]) (by simp[Y9]) ed) ?_;show(if decide ((0:Int)<dv)=true then _ else _)=_;rw[if_pos (decide_eq_true O0)]
 ·refine aJ [.int (t*4*m),.tup [.str "root",.str of,.int mt,.int (c1 / (1024+5*i) % dv),.str rl]] (cj rfl (cj (aJ [.str "root",.str of,.int mt,.int (c1 / (1024+5*i) % dv),.str rl] (cj rfl (aF (bD (.lst (zs.map .str)) (.int (5+i)) rfl (by simp) Wj) (cj rfl (cj rfl (cj rfl rfl))))) (cy _ (by simp))) rfl)) (cy _ (by simp))
 ·refine aJ [.int 0,.tup [.str "named",.int 0,.str of,.str pn]] (cj rfl (cj (aJ [.str "named",.int 0,.str of,.str pn] (cj rfl (cj rfl (aF (bD (.lst (zs.map .str)) (.int (5+i)) rfl (by simp) Wj) (aF (bD (.lst (zs.map .str)) (.int i) rfl rfl Wk) rfl)))) (cy _ (by simp))) rfl)) (cy _ (by simp))
 ·exact bD (.lst (zs.map .str)) (.int i) rfl rfl Wk
 ·simp
noncomputable def ly (ab:List D):List Str:=(ab.filter bd).map (a7 0)
theorem nX (ab:List D)(r:D):ly (ab++[r])=ly ab++if bd r=true then [a7 0 r]else []:=by
 unfold ly;rw[List.filter_append,uW,List.filter_cons];split
 ·rename_i h;rfl
 ·rename_i h;rfl
theorem Qd (c1 m most:Int)(zs iE:List Str)(ns:List Int)(ab:List D)(hz:zs.length=7)(i:Nat)(hi:i<100)(hr:ab.length<=200)(hh:iE≠[])(Z6:iE.length<=200)(v8 v9 rY GV Re Rf Rg:Option (D×Bool)):
  ∃r1 rV RZ Sa Sb,(c7 r1/\bd r1=false)/\rV≠[]/\rV.length<=iE.length+1/\nN [sF (.lst (ns.map .int)),sF (.lst (zs.map .str)),sF (.int m),sF (.int most),sF (.int c1),some (.lst ab,true),some (.lst (iE.map .str),true),sF (.int i),v8,v9,rY,GV,Re,Rf,Rg]
   = some (.nx [sF (.lst (ns.map .int)),sF (.lst (zs.map .str)),sF (.int m),sF (.int most),sF (.int c1),some (.lst (ab++[r1]),true),some (.lst (rV.map .str),true),sF (.int i),v8,v9,rY,GV,RZ,Sa,Sb]):=by
 obtain⟨ca,YA,Z7⟩:=gw ns (5+i);obtain⟨cb,YB,Z8⟩:=gw ns (30+i);obtain⟨cc,YC,Z9⟩:=gw ns (60+i);have h3:=mod_lt (x:=ca / 7) (m:=3) (by decide);obtain⟨day,wH⟩:∃day:Int,((i:Int) / 2+ca / 7 % 3)*m=day:=⟨_,rfl⟩;obtain⟨k,r,ed,hD,ND⟩:=Jj ab.length cb cc day m zs iE hz hh;have YD:=λh=>hD.had3 h;have YE:=λh=>hD.had4 h;have h6:=mod_lt (x:=ca / 21) (m:=6) (by decide);obtain⟨tv,YF,YG⟩:=oG (ns:=[0,0,0,0,1,4]) (i:=ca / 21 % 6) h6.1 h6.2;have TV : -1000<=tv/\tv<=1000:=by simp only[List.mem_cons,List.not_mem_nil,or_false]at YF;omega
 have Qm:bv (.tup (.str k::r))=true:=by simp[hD.flat]
 have e4:∀(ρ:DL.Env),ρ[14]? = some (sF (.tup (.str k::r)))->dI 14 0 ρ=sF (.str k):=λρ h=>bD (.tup (.str k::r)) (.int 0) (by simp[h]) rfl (by simp[Hh]);have e1:∀(b:Bool),decide (k=("leave" : Str)∨k=("named" : Str))=b->bw (f2 xE (dI 14 0) (fA aV (af (fS ("leave" : Str)) (af (fS ("named" : Str)) ai)))) [sF (.lst (ns.map .int)),sF (.lst (zs.map .str)),sF (.int m),sF (.int most),sF (.int c1),some (.lst ab,true),some (.lst (iE.map .str),true),sF (.int i),v8,v9,rY,GV,sF (.int ca),sF (.int day),sF (.tup (.str k::r))]=some b:=λb hb=>de (bD (.str k) (.tup (([("leave" : Str),("named" : Str)]:List Str).map .str)) (e4 _ rfl) (by simp[sizeLine]) (by rw[iq,←hb];simp));have at_:∀(j:Nat)(p:Str),r[j]? = some (.str p)->∀ρ:DL.Env,ρ[14]? = some (sF (.tup (.str k::r)))->f2 bM (aj 14) (fC (.int ((j+1:Nat):Int))) ρ=sF (.str p):=λj p hp ρ hρ=>by
  have hl:j<r.length:=(vV hp).1;refine bD (.tup (.str k::r)) (.int ((j+1:Nat):Int)) (by simp[hρ]) rfl ?_;rw[DL.zG (by omega) (by simp;omega),show((j+1:Nat):Int).toNat=j+1 by omega,vF];show some ((r[j]?).getD .non,false)=_;rw[hp];rfl
 obtain⟨rV,U1,Rh,YH⟩:∃rV:List Str,rV≠[]/\rV.length<=iE.length+1/\∀(h:FS)(rr:Option Res),h [sF (.lst (ns.map .int)),sF (.lst (zs.map .str)),sF (.int m),sF (.int most),sF (.int c1),some (.lst ab,true),some (.lst (rV.map .str),true),sF (.int i),v8,v9,rY,GV,sF (.int ca),sF (.int day),sF (.tup (.str k::r))]=rr->aA (eG (bw (f2 xE (dI 14 0) (fA aV (af (fS ("leave" : Str)) (af (fS ("named" : Str)) ai))))) (jh 6 (dI 14 3)) bp) (aA (eG (bw (f2 dG (dI 14 0) (fS ("chosen" : Str)))) (jh 6 (dI 14 4)) bp) h) [sF (.lst (ns.map .int)),sF (.lst (zs.map .str)),sF (.int m),sF (.int most),sF (.int c1),some (.lst ab,true),some (.lst (iE.map .str),true),sF (.int i),v8,v9,rY,GV,sF (.int ca),sF (.int day),sF (.tup (.str k::r))]=rr:=by
  by_cases hx:k=("leave" : Str)∨k=("named" : Str)
  ·obtain⟨p,hp⟩:=YD hx;have QC:k≠("chosen" : Str):=by rcases hx with rfl|rfl<;>decide +kernel
   refine⟨iE++[p],by simp,by simp,λh rr hr=>dm (lK (e1 true (decide_eq_true hx)) (gK (ds:=iE.map .str) (d:=.str p) (b:=false) rfl (at_ 2 p hp _ rfl) rfl (bA (by simp;omega)))) (aC (bR (a:=k) (bb:=false) (e4 _ rfl) (decide_eq_false QC)) ?_)⟩;rw[uW]at hr;exact hr
  ·by_cases hy:k=("chosen" : Str)
   ·obtain⟨p,hp⟩:=YE hy;refine⟨iE++[p],by simp,by simp,λh rr hr=>aC (e1 false (decide_eq_false hx)) (dm (lK (bR (a:=k) (bb:=false) (e4 _ rfl) (decide_eq_true hy)) (gK (ds:=iE.map .str) (d:=.str p) (b:=false) rfl (at_ 3 p hp _ rfl) rfl (bA (by simp;omega)))) ?_)⟩;rw[uW]at hr;exact hr
   ·exact⟨iE,hh,by omega,λh rr hr=>aC (e1 false (decide_eq_false hx)) (aC (bR (a:=k) (bb:=false) (e4 _ rfl) (decide_eq_false hy)) hr)⟩
 refine⟨row (day+tv*m) k r,rV,sF (.int ca),sF (.int day),sF (.tup (.str k::r)),⟨⟨_,_,_,rfl,hD⟩,decide_eq_false ND⟩,U1,Rh,?_⟩;refine gd (.int ca) (aJ [.lst (ns.map .int),.int ((5+i:Nat):Int)] (by simp) YA) rfl (gd (.int day) ?_ rfl (gd (.tup (.str k::r)) ?_ Qm (YH _ _ ((gK (ds:=ab) (d:=row (day+tv*m) k r) (b:=false) rfl ?_ (by simp[row,hD.flat]) (bA (by omega))).trans ?_))))
 ·refine bD (.int ((i:Int) / 2+ca / 7 % 3)) (.int m) (by simp) rfl ?_;rw[←wH];exact lS (by omega)
 ·refine aJ [.int ab.length,.int cb,.int cc,.lst (zs.map .str),.int day,.lst (iE.map .str),.int m] (cj (by simp) (aF (aJ [.lst (ns.map .int),.int ((30+i:Nat):Int)] (by simp) YB) (aF (aJ [.lst (ns.map .int),.int ((60+i:Nat):Int)] (by simp) YC) (cj rfl (cj rfl (cj rfl (cj rfl rfl))))))) ed
 ·refine aJ [.int (day+tv*m),.tup (.str k::r)] (cj (bD (.int day) (.int (tv*m)) rfl (bD (.int tv) (.int m) (iY (x:=.lst (([0,0,0,0,1,4]:List Int).map .int)) (y:=.int (ca / 21 % 6)) (b1:=true) (b2:=false) (by simp[sizeLine]) (by simp) YG) rfl (lS TV)) rfl) (cj rfl rfl)) (cy _ (by simp))
 ·simp
theorem Jk (ns:List Int)(zs:List Str)(hz:zs.length=7)(m:Int):∃ab:List D,qR [.lst (ns.map .int),.lst (zs.map .str),.int m,.int 18]=sF (.tup ab)/\(∀r∈ab,c7 r)/\ab.length<=24/\ly ab=(zs.drop 5).take (ly ab).length:=by
 obtain⟨c1,e1,h1⟩:=gw ns 1;obtain⟨c2,e2,h2⟩:=gw ns 2;have Ow:=mod_lt (x:=c1) (m:=2) (by decide);have Ut:=mod_lt (x:=c2) (m:=18) (by decide);obtain⟨n1,RX⟩:∃n1:Nat,1+c1 % 2=n1:=⟨(1+c1 % 2).toNat,by omega⟩;obtain⟨n2,U2⟩:∃n2:Nat,3+c2 % 18=n2:=⟨(3+c2 % 18).toNat,by omega⟩;obtain⟨ρ1,f1,Lk,Ri,u7,u8,u9,U3,U4,rfl,g1,l1,k1,o1⟩:=ky (tg:=dA 7) (g:=nM) n1 (λi ρ=>∃(ab:List D)(iE:List Str)(v7 v8 v9 rY GV:Option (D×Bool)),ρ=[sF (.lst (ns.map .int)),sF (.lst (zs.map .str)),sF (.int m),sF (.int 18),sF (.int c1),some (.lst ab,true),some (.lst (iE.map .str),true),v7,v8,v9,rY,GV,none,none,none]/\(∀r∈ab,c7 r)/\ab.length=2*i/\iE.length=i/\ly ab=(zs.drop 5).take i)
  [sF (.lst (ns.map .int)),sF (.lst (zs.map .str)),sF (.int m),sF (.int 18),sF (.int c1),some (.lst [],true),some (.lst [],true),none,none,none,none,none,none,none,none] ⟨[],[],none,none,none,none,none,rfl,by simp,rfl,rfl,rfl⟩ (by
   rintro i ρ hi ⟨ab,iE,v7,v8,v9,rY,GV,rfl,g,l,k,o⟩;obtain⟨r1,r2,p,w8,w9,GW,Ux,q1,q2,e⟩:=Qc c1 m 18 [] zs iE ns ab hz i (by omega) (by omega) (by omega) v8 v9 rY GV;refine⟨_,_,rfl,.inl e,ab++[r1]++[r2],iE++[p],_,w8,w9,GW,Ux,rfl,?_,by simp;omega,by simp[k],by rw[nX,nX,if_pos q1.2.1,if_neg (by rw[q2.2];decide),uQ,o,List.take_add_one,List.getElem?_drop,q1.2.2];rfl⟩;intro r hr;simp only[List.mem_append,List.mem_singleton]at hr;rcases hr with (hr|rfl)|rfl
   ·exact g r hr
   ·exact q1.1
   ·exact q2.1)
 obtain⟨ρ2,YI,Ll,YJ,w7,RZ,Sa,Sb,rfl,g2,l2,k2,k3,o2⟩:=ky (tg:=dA 7) (g:=nN) n2 (λi ρ=>∃(ab:List D)(iE:List Str)(v7 Re Rf Rg:Option (D×Bool)),ρ=[sF (.lst (ns.map .int)),sF (.lst (zs.map .str)),sF (.int m),sF (.int 18),sF (.int c1),some (.lst ab,true),some (.lst (iE.map .str),true),v7,u8,u9,U3,U4,Re,Rf,Rg]/\(∀r∈ab,c7 r)/\ab.length=2*n1+i/\iE≠[]/\iE.length<=n1+i/\ly ab=(zs.drop 5).take n1)
  [sF (.lst (ns.map .int)),sF (.lst (zs.map .str)),sF (.int m),sF (.int 18),sF (.int c1),some (.lst Lk,true),some (.lst (Ri.map .str),true),u7,u8,u9,U3,U4,none,none,none] ⟨Lk,Ri,u7,none,none,none,rfl,g1,by omega,λe=>by rw[e]at k1;simp at k1;omega,by omega,o1⟩ (by
   rintro i ρ hi ⟨ab,iE,v7,Re,Rf,Rg,rfl,g,l,k,k',o⟩;obtain⟨r1,rV,RZ,Sa,Sb,q1,q2,q3,e⟩:=Qd c1 m 18 zs iE ns ab hz i (by omega) (by omega) k (by omega) u8 u9 U3 U4 Re Rf Rg;refine⟨_,_,rfl,.inl e,ab++[r1],rV,_,RZ,Sa,Sb,rfl,?_,by simp;omega,q2,by omega,by rw[nX,if_neg (by rw[q1.2];decide),uQ,o]⟩;intro r hr;simp only[List.mem_append,List.mem_singleton]at hr;rcases hr with hr|rfl
   ·exact g r hr
   ·exact q1.1)
 refine⟨Ll,aw rfl (gd (.int c1) (aJ [.lst (ns.map .int),.int ((1:Nat):Int)] (by simp) e1) rfl (cx (ds:=[]) (by simp[sizeLine]) rfl (cx (ds:=[]) (by simp[sizeLine]) rfl (dm (k7 (gZ (j:=n1) (b:=false) (by simp;omega) (by omega)) f1) (dm (k7 (gZ (j:=n2) (b:=false) ?_ (by omega)) YI) (az (by simp))))))),g2,by omega,?_⟩
 ·refine bD (.int 3) (.int (c2 % 18)) rfl (bD (.int c2) (.int 18) (aJ [.lst (ns.map .int),.int ((2:Nat):Int)] (by simp) e2) rfl (by simp)) ?_;rw[←U2];rfl
 ·have hl:(ly Ll).length<=n1:=by rw[o2,List.length_take];omega
  rw[o2,List.length_take];congr 1;rw[List.length_drop];omega
theorem uc (a b:Nat):im [.int a,.int b]=sF (.bl (decide (a &&& b=b))):=by
 have:Builtin.bitAnd (a:Int) (b:Int)=((a &&& b:Nat):Int):=by simp[Builtin.bitAnd]
 simp[im,qJ,this];omega
def je (r:D):Nat:=(if kindOf r=("root" : Str)then iz 1 r else if kindOf r=("leave" : Str)then iz 3 r else iz 2 r).toNat
theorem fM (a:Int)(k:Str)(aD:List D):kindOf (row a k aD)=k:=rfl
noncomputable def eS:List Str:=[("leave" : Str),("paper" : Str),("like" : Str)]
theorem rE (g:c7 r)(h:bd r=true):∃a o rl,∃m:Nat,∃f:Int,r=row a ("root" : Str) [.str o,.int m,.int f,.str rl]/\m∈MR/\je r=m:=by
 obtain⟨a,k,aD,rfl,d⟩:=g;have hk:k=("root" : Str):=of_decide_eq_true h;clear h;cases d with
 |root o rl m hm f=>exact⟨a,o,rl,m,f,rfl,hm,by unfold je;rw[fM,if_pos rfl];rfl⟩
 |named=>exact absurd hk (by decide +kernel)
 |chosen=>exact absurd hk (by decide +kernel)
 |heir=>exact absurd hk (by decide +kernel)
 |three k fG=>rcases fG with rfl|rfl|rfl<;>exact absurd hk (by decide +kernel)
 |leave=>exact absurd hk (by decide +kernel)
 |paper k fG=>rcases fG with rfl|rfl<;>exact absurd hk (by decide +kernel)
 |copy k fG=>rcases fG with rfl|rfl<;>exact absurd hk (by decide +kernel)
theorem Ca (g:c7 r)(h:bd r=true):au [r,.str "matters"]=sF (.int (je r)):=by
 obtain⟨a,o,rl,m,f,rfl,_,e⟩:=rE g h;rw[e];exact br (i:=1) (bi (by decide +kernel)) rfl
theorem MW {a:Int}{k:Str}{aD:List D}(d:Dd k aD)(h:k∈eS):je (row a k aD)∈MS/\(∃i:Nat,oW gR (.str k) (.str "matters")=sF (.int i)/\aD[i]? = some (.int (je (row a k aD))))/\(D.str k::aD).getD (3+if k=("leave" : Str)then 1 else 0) .non=.int (je (row a k aD))/\(3+if k=("leave" : Str)then 1 else 0)<(D.str k::aD).length:=by
 cases d with
 |leave d b p m hm x f=>
  have e:je (row a ("leave" : Str) [.int d,.str b,.str p,.int m,iG x,.int f])=m:=by unfold je;rw[fM,if_neg (by decide +kernel),if_pos rfl];rfl
  rw[e];refine⟨hm,⟨3,bi (by decide +kernel),rfl⟩,?_,?_⟩
  ·rw[if_pos rfl];rfl
  ·rw[if_pos rfl];simp
 |paper k hk d b m hm x r hf hp=>
  have hl:k≠("leave" : Str):=by rcases hk with rfl|rfl<;>decide +kernel
  have hr:k≠("root" : Str):=by rcases hk with rfl|rfl<;>decide +kernel
  have e:je (row a k (.int d::.str b::.int m::iG x::r))=m:=by unfold je;rw[fM,if_neg hr,if_neg hl];rfl
  rw[e];refine⟨hm,⟨2,by rcases hk with rfl|rfl<;>exact bi (by decide +kernel),rfl⟩,?_,?_⟩
  ·rw[if_neg hl];rfl
  ·rw[if_neg hl];simp
 |root=>exact absurd h (by decide +kernel)
 |named=>exact absurd h (by decide +kernel)
 |chosen=>exact absurd h (by decide +kernel)
 |heir=>exact absurd h (by decide +kernel)
 |three k fG=>rcases fG with rfl|rfl|rfl<;>exact absurd h (by decide +kernel)
 |copy k fG=>rcases fG with rfl|rfl<;>exact absurd h (by decide +kernel)
theorem w6 (g:c7 r)(h:kindOf r∈eS):au [r,.str "matters"]=sF (.int (je r)):=by
 obtain⟨a,k,aD,rfl,d⟩:=g;obtain⟨_,⟨i,h1,h2⟩,_⟩:=MW (a:=a) d h;exact br h1 h2
noncomputable def bx:List Str:=[("leave" : Str),("paper" : Str),("like" : Str),("copy" : Str)]
theorem i7 (h:k∈bx∨k=("call" : Str)):dX k=true:=by
 rw[qV];refine decide_eq_true ?_;rcases h with h|rfl
 ·have:∀k∈bx,k∈yG:=by decide +kernel
  exact this k h
 ·decide +kernel
theorem Cb {k:Str}{aD:List D}(d:Dd k aD)(h:dX k=true):∃(dd:Int)(b:Str)(r:List D),aD=.int dd::.str b::r:=d.cd.deed.slg h
theorem Cc (g:c7 r)(h:dX (kindOf r)=true):au [r,.str "by"]=sF (.str (cZ r)):=by
 obtain⟨a,k,aD,rfl,d⟩:=g;obtain⟨dd,b,q,rfl⟩:=Cb d h;exact br (i:=1) (FX h) rfl
noncomputable def bT (K:KL):List D:=(K.filter λx=>bd x.1).map (·.1)
theorem yS:∀(l:List (c8×D))(a:List c8×List D),(a.1++l.map (·.1)).Nodup->l.foldl qj a=(a.1++l.map (·.1),a.2++l.map (·.2))
 |[],a,_=>by simp
 |p::l,a,h=>by
  have hn:p.1∉a.1:=by
   rw[uY,List.nodup_append]at h;exact λz=>h.2.2 _ z _ mX rfl
  have e:qj a p=(a.1++[p.1],a.2++[p.2]):=by unfold qj dD dE;rw[if_neg hn,if_neg hn]
  rw[List.foldl_cons,e,yS l _ (by rw[List.append_assoc];exact h)];simp
section
variable {K:KL}(hn:((bT K).map (a7 0)).Nodup)
include hn
theorem rF:bU (mU K)=((bT K).map λv=>(.inr (a7 0 v):c8),bT K):=by
 have e:mU K=(bT K).map λv=>((.inr (a7 0 v):c8),v):=by unfold mU bT;rw[uP];rfl
 have U2:((bT K).map λv=>(.inr (a7 0 v):c8)).Nodup:=by
  refine List.pairwise_map.mpr ((List.pairwise_map.mp hn).imp λh z=>h (Sum.inr.inj z))
 rw[e];unfold bU;rw[yS _ _ (by rw[uP];exact U2),uP,uP];simp only[List.nil_append];congr 1;exact List.map_id _
end
noncomputable def Jl (j:Nat):D->Int×Option Int
 |.tup [_,.tup (_::aD)]=>match aD[j]? with
  |some (.tup [.int s,.int u])=>(s,some u)
  |some (.tup [.int s,.non])=>(s,none)
  |_=>(0,none)
 |_=>(0,none)
theorem wA {h:Int}{k:Str}{aD:List D}{j:Nat}{x:Int×Option Int}(e:aD[j]? = some (iG x)):Jl j (row h k aD)=x:=by
 unfold Jl row;simp only[e];obtain⟨s,u⟩:=x;cases u<;>rfl
def iA (r:D):Int×Option Int:=if kindOf r=("leave" : Str)then Jl 4 r else Jl 3 r
def jw (r:D):Int:=if kindOf r=("root" : Str)then iz 2 r else iz 5 r
def nY (r:D):Bool:=decide (kindOf r=("leave" : Str))
theorem oH {r:D}(g:c7 r)(h:kindOf r=("leave" : Str)):∃a d b p,∃m:Nat,∃x f,r=row a ("leave" : Str) [.int d,.str b,.str p,.int m,iG x,.int f]/\m∈MS/\je r=m/\iA r=x/\jw r=f:=by
 obtain⟨a,k,aD,rfl,d⟩:=g;have hk:k=("leave" : Str):=h;clear h;cases d with
 |leave d b p m hm x f=>exact⟨a,d,b,p,m,x,f,rfl,hm,by unfold je;rw[fM,if_neg (by decide +kernel),if_pos rfl];rfl,by unfold iA;rw[fM,if_pos rfl];exact wA rfl,by unfold jw;rw[fM,if_neg (by decide +kernel)];rfl⟩
 |root=>exact absurd hk (by decide +kernel)
 |named=>exact absurd hk (by decide +kernel)
 |chosen=>exact absurd hk (by decide +kernel)
 |heir=>exact absurd hk (by decide +kernel)
 |three k fG=>rcases fG with rfl|rfl|rfl<;>exact absurd hk (by decide +kernel)
 |paper k fG=>rcases fG with rfl|rfl<;>exact absurd hk (by decide +kernel)
 |copy k fG=>rcases fG with rfl|rfl<;>exact absurd hk (by decide +kernel)
theorem Jm {a:Int}{k:Str}{aD:List D}(d:Dd k aD)(h:k∈eS):(∃i:Nat,oW gR (.str k) (.str "stretch")=sF (.int i)/\aD[i]? = some (iG (iA (row a k aD))))/\(D.str k::aD).getD (4+if k=("leave" : Str)then 1 else 0) .non=iG (iA (row a k aD))/\(4+if k=("leave" : Str)then 1 else 0)<(D.str k::aD).length:=by
 cases d with
 |leave d b p m hm x f=>
  have e:iA (row a ("leave" : Str) [.int d,.str b,.str p,.int m,iG x,.int f])=x:=by unfold iA;rw[fM,if_pos rfl];exact wA rfl
  rw[e,if_pos rfl];exact⟨⟨4,bi (by decide +kernel),rfl⟩,rfl,by simp⟩
 |paper k hk d b m hm x r hf hp=>
  have hl:k≠("leave" : Str):=by rcases hk with rfl|rfl<;>decide +kernel
  have e:iA (row a k (.int d::.str b::.int m::iG x::r))=x:=by unfold iA;rw[fM,if_neg hl];exact wA rfl
  rw[e,if_neg hl];exact⟨⟨3,by rcases hk with rfl|rfl<;>exact bi (by decide +kernel),rfl⟩,rfl,by simp⟩
 |root=>exact absurd h (by decide +kernel)
 |named=>exact absurd h (by decide +kernel)
 |chosen=>exact absurd h (by decide +kernel)
 |heir=>exact absurd h (by decide +kernel)
 |three k fG=>rcases fG with rfl|rfl|rfl<;>exact absurd h (by decide +kernel)
 |copy k fG=>rcases fG with rfl|rfl<;>exact absurd h (by decide +kernel)
theorem Ce (g:c7 r)(h:kindOf r∈eS):au [r,.str "stretch"]=some (iG (iA r),false):=by
 obtain⟨a,k,aD,rfl,d⟩:=g;obtain⟨⟨i,h1,h2⟩,_⟩:=Jm (a:=a) d h;exact br h1 h2
theorem wB (h:kindOf r=("leave" : Str)):kindOf r∈eS:=by rw[h];decide +kernel
theorem KP (g:c7 r)(h:bd r=true∨kindOf r=("leave" : Str)):au [r,.str "further"]=sF (.int (jw r)):=by
 rcases h with h|h
 ·obtain⟨a,o,rl,m,f,rfl,_,_⟩:=rE g h;rw[show jw (row a ("root" : Str) [.str o,.int m,.int f,.str rl])=f by unfold jw;rw[fM,if_pos rfl];rfl];exact br (i:=2) (bi (by decide +kernel)) rfl
 ·obtain⟨a,d,b,p,m,x,f,e,_,_,_,ef⟩:=oH g h;rw[ef,e];exact br (i:=5) (bi (by decide +kernel)) rfl
def rG (r v:D):Bool:=decide (je v &&& je r=je r) && !(nY r && decide (jw v<=jw r))
theorem yT (gr:c7 r)(gv:c7 v)(kr:kindOf r∈eS)(kv:bd v=true∨kindOf v=("leave" : Str)):∃d,iN [r,v]=some (d,false)/\DQ d .non=sF (.bl (rG r v)):=by
 have YK:au [v,.str "matters"]=sF (.int (je v)):=kv.elim (Ca gv) λh=>w6 gv (wB h);have t1:bw (fA im (af (fA au (fV 1 (af (fS ("matters" : Str)) ai))) (af (fA au (fV 0 (af (fS ("matters" : Str)) ai))) ai))) [some (r,false),some (v,false)]=some (decide (je v &&& je r=je r)):=de (aJ [.int (je v),.int (je r)] (aF (aJ [v,.str "matters"] rfl YK) (aF (aJ [r,.str "matters"] rfl (w6 gr kr)) rfl)) (uc _ _));have t2:bw (f2 dG (fA aK (fV 0 ai)) (fS ("leave" : Str))) [some (r,false),some (v,false)]=some (nY r):=bR (a:=kindOf r) (bb:=false) (aJ [r] rfl (jc gr.c)) rfl;have t3:nY r=true->bw (f2 S2 (fA au (fV 0 (af (fS ("further" : Str)) ai))) (fA au (fV 1 (af (fS ("further" : Str)) ai)))) [some (r,false),some (v,false)]=some (decide (jw v<=jw r)):=λh=>de (bD (.int (jw r)) (.int (jw v)) (aJ [r,.str "further"] rfl (KP gr (.inr (of_decide_eq_true h)))) (aJ [v,.str "further"] rfl (KP gv kv)) rfl);have t4:=dF t2 t3;unfold rG;cases hA:decide (je v &&& je r=je r) with
 |false=>exact⟨.str "matters",aw rfl (bF (cn (p:=false) (t1.trans (by rw[hA]))) (az rfl)),rfl⟩
 |true=>
  cases hB:(nY r && decide (jw v<=jw r)) with
  |true=>exact⟨.str "further",aw rfl (aC (cn (p:=true) (t1.trans (by rw[hA]))) (bF (t4.trans (by rw[hB])) (az rfl))),rfl⟩
  |false=>exact⟨.non,aw rfl (aC (cn (p:=true) (t1.trans (by rw[hA]))) (aC (t4.trans (by rw[hB])) (az rfl))),rfl⟩
theorem rH (h:k∈eS):k∈bx:=by
 have:∀k∈eS,k∈bx:=by decide +kernel
 exact this k h
theorem iS (h:kindOf r∈eS):bd r=false:=by
 have:∀k∈eS,decide (k=("root" : Str))=false:=by decide +kernel
 exact this _ h
theorem rJ (g:c7 r)(h:bd r=false):aO [r]=sF (.int (a9 r)):=by
 have:=qW g.c;unfold sr at this;rwa [h,if_neg (by decide)]at this
def sv (cs:List Cl)(r v:D):Bool:=iR cs (a7 0 v) (a7 3 v) (cZ r) (a9 r) && rG r v
theorem Jn (cs:List Cl)(wM:cs.length<=60)(gr:c7 r)(gv:c7 v)(kr:kindOf r∈eS)(hv:bd v=true):∃d,gT [.lst (cs.map aR),r,v]=some (d,false)/\DQ d .non=sF (.bl (sv cs r v)):=by
 obtain⟨d,e1,e2⟩:=yT gr gv kr (.inl hv);have t1:bw (fA cL (fV 0 (fV 2 (af (fA au (fV 1 (af (fS ("by" : Str)) ai))) (af (fA aO (fV 1 ai)) ai))))) [sF (.lst (cs.map aR)),some (r,false),some (v,false)]=some (iR cs (a7 0 v) (a7 3 v) (cZ r) (a9 r)):=by
  refine de (aJ [.lst (cs.map aR),v,.str (cZ r),.int (a9 r)] (cj rfl (cj rfl (aF (aJ [r,.str "by"] rfl (Cc gr (i7 (.inl (rH kr))))) (aF (aJ [r] rfl (rJ gr (iS kr))) rfl)))) ?_);obtain⟨a,o,rl,m,f,rfl,_,_⟩:=rE gv hv;exact wu cs wM _ _
 unfold sv;cases hA:iR cs (a7 0 v) (a7 3 v) (cZ r) (a9 r) with
 |false=>exact⟨.str "holder",aw rfl (bF (cn (p:=false) (t1.trans (by rw[hA]))) (az rfl)),rfl⟩
 |true=>exact⟨d,aw rfl (aC (cn (p:=true) (t1.trans (by rw[hA]))) (az (aJ [r,v] rfl e1))),e2⟩
def Gm (cs:List Cl)(r v:D):Int:=match jR cs (a7 0 v) (a7 3 v) (a9 r) with
 |.tup [_,_,.int n]=>n
 |_=>0
theorem Gn (h:iR cs o rl p day=true):∃n:Int,jR cs o rl day=.tup [.str "one",.str p,.int n]:=by
 unfold iR jR at h;unfold jR;generalize Od cs o day=al at h ⊢;cases al with
 |nil=>
  have h:bE (.tup [.str "none"]) (.tup [.str "one",.str p])=true:=h;simp[dn]at h
 |cons b r=>
  rw[oF]at h ⊢;split at h
  ·have h:bE (.tup [.str "parted",.lst ((lQ (b::r)).map .str)]) (.tup [.str "one",.str p])=true:=h;simp[dn]at h
  ·rename_i hn;rw[if_neg hn];have h:bE (.tup [.str "one",.str (iw rl b r).p]) (.tup [.str "one",.str p])=true:=h;have h:(iw rl b r).p=p:=by simpa [dn]using h
   exact⟨_,by rw[h]⟩
theorem Jo (h:iR cs (a7 0 v) (a7 3 v) (cZ r) (a9 r)=true):jR cs (a7 0 v) (a7 3 v) (a9 r)=.tup [.str "one",.str (cZ r),.int (Gm cs r v)]:=by
 obtain⟨n,e⟩:=Gn h;unfold Gm;rw[e]
def MX (cs:List Cl)(r v:D):D:=.tup [.str "office",.str (a7 0 v),.int (Gm cs r v)]
theorem rK (g:∀r∈ab,c7 r)(hv:v∈bT (ak ab aa)):c7 v/\bd v=true:=by
 obtain⟨x,hx,rfl⟩:=vO hv;obtain⟨h1,h2⟩:=vN hx;exact⟨g _ (vL (b7 h1)),h2⟩
theorem Go (hl:ab.length<=60)(aa:Int):(bT (ak ab aa)).length<=60:=by
 unfold bT;rw[vI];exact vR (vM _ _) (vR (cu ab aa) hl)
theorem D0 {ab:List D}(g:∀r∈ab,c7 r)(hl:ab.length<=60)(aa:Int)(hn:((bT (ak ab aa)).map (a7 0)).Nodup)(cs:List Cl)(wM:cs.length<=60){ri:Nat}{r:D}(hr:ab[ri]? = some r)(kr:kindOf r∈eS):
  io [.tup ab,.int aa,.lst (cs.map aR),.int ri]=some (.lst (((bT (ak ab aa)).filter (sv cs r)).map (MX cs r)),true):=by
 have gC:fQ ab:=⟨hl,λr hr=>(g r hr).c⟩;have gr:=g r (vL hr);have Rj:=Go hl aa;have h1:=iM (fi:=qp (fA gu (fV 0 (fV 1 ai)))) (nT:=1) (cap:=[2,4]) (tg:=dA 0) (c:=bw (f2 DQ (fA gT (fV 1 (fV 2 (fV 0 ai)))) (fC .non))) (fe:=aj 0)
  (ρ:=[sF (.tup ab),sF (.int aa),sF (.lst (cs.map aR)),sF (.int ri),some (r,false),none]) (bT (ak ab aa)) id (sv cs r) id
  (by show(fA gu _ _).bind _=_;rw[aJ [.tup ab,.int aa] rfl (rq gC aa),rF hn];simp) (by omega) λv hv=>by
   obtain⟨gv,Li⟩:=rK g hv;obtain⟨d,e1,e2⟩:=Jn cs wM gr gv kr Li;exact⟨[some (v,false),sF (.lst (cs.map aR)),some (r,false)],rfl,de (bD d .non (aJ [.lst (cs.map aR),r,v] rfl e1) rfl e2),λ_=>⟨false,rfl⟩⟩
 rw[List.map_id]at h1;have z7:bz ((bT (ak ab aa)).filter (sv cs r))=true:=bY λv hv=>(rK g (vN hv).1).1.flat;refine aw rfl (gd r (bD (.tup ab) (.int ri) rfl rfl (by simp[cE hr])) gr.flat (cx h1 z7 (az ?_)));refine mF (fi:=cq (aj 5)) (nT:=1) (cap:=[2,4]) (tg:=dA 0) (fe:=fA aV (af (fS ("office" : Str)) (af (fA au (fV 0 (af (fS ("office" : Str)) ai))) (af (f2 bM (fA dS (fV 1 (fV 0 (af (fA aO (fV 2 ai)) ai)))) (fI 2)) ai))))
  (ρ:=[sF (.tup ab),sF (.int aa),sF (.lst (cs.map aR)),sF (.int ri),some (r,false),some (.lst ((bT (ak ab aa)).filter (sv cs r)),true)]) ((bT (ak ab aa)).filter (sv cs r)) id (MX cs r) (by simp) (vR (vM _ _) (by omega)) λv hv=>?_
 obtain⟨YL,YM⟩:=vN hv;obtain⟨gv,Li⟩:=rK g YL;have Wl:(iR cs (a7 0 v) (a7 3 v) (cZ r) (a9 r) && rG r v)=true:=YM;rw[vC]at Wl;have hh:=Jo Wl.1;refine⟨[some (v,false),sF (.lst (cs.map aR)),some (r,false)],rfl,false,?_⟩;obtain⟨a,o,rl,m,f,rfl,_,_⟩:=rE gv Li;refine aJ [.str "office",.str o,.int (Gm cs r _)] (cj rfl (aF (aJ [row a ("root" : Str) [.str o,.int m,.int f,.str rl],.str "office"] rfl kJ) (cj (bD (jR cs o rl (a9 r)) (.int 2) (aJ [.lst (cs.map aR),row a ("root" : Str) [.str o,.int m,.int f,.str rl],.int (a9 r)] (cj rfl (cj rfl (aF (aJ [r] rfl (rJ gr (iS kr))) rfl))) (mT cs wM _)) rfl ?_) rfl))) (cy _ (by simp));have hh:jR cs o rl (a9 r)=_:=hh;rw[hh];simp[UU]
noncomputable def Gp (day:Int)(x:Int×Option Int):Bool:=decide (x.1<=day) && (match x.2 with|none=>true|some u=>decide (day<u))
noncomputable def Qe:Option Int->Option Int->Bool
 |_,none=>true
 |none,some _=>false
 |some x,some y=>decide (x<=y)
theorem Jp (a b:Option Int):ja [uD a,uD b]=sF (.bl (Qe a b)):=by
 cases b with
 |none=>exact aw rfl (bF (de (by simp[uD])) (az (by cases a<;>rfl)))
 |some y=>
  refine aw rfl (aC (de (by simp[uD])) (az ?_));cases a with
  |none=>exact dB (p:=false) (q:=false) (b1:=false) (by simp[uD]) (by simp)
  |some x=>exact dB (p:=true) (q:=decide (x<=y)) (b1:=false) (by simp[uD]) λ_=>by simp[uD]
def Jq (a b:Int×Option Int):Bool:=decide (b.1<=a.1) && Qe a.2 b.2
theorem MY (a b:Int×Option Int):iO [iG a,iG b]=sF (.bl (Jq a b)) :=
 aw rfl (az (dB (b1:=false) (by simp[iG,Hh]) λ_=>aJ [uD a.2,uD b.2] (cj (by simp[iG,Hi]) (cj (by simp[iG,Hi]) rfl)) (Jp _ _)))
theorem KQ {ab:List D}{i:Nat}{r:D}(hr:ab[i]? = some r)(g:c7 r)(h:bd r=false):ft [.tup ab,.int i]=sF (.tup [.int (a9 r),.int i]) :=
 aw rfl (az (aJ [.int (a9 r),.int i] (cj (aJ [r] (by simp[cE hr]) (rJ g h)) rfl) (by simp[sizeLine])))
theorem SU (a b c d:Int):Lx (.tup [.int a,.int b]) (.tup [.int c,.int d])=sF (.bl (decide (a<c∨(a=c/\b<d)))):=by
 show(aY [.i a,.i b] [.i c,.i d]).map _=_;rw[MU];rfl
theorem yU {ab:List D}{i j:Nat}{x y:D}(hx:ab[i]? = some x)(hy:ab[j]? = some y)(gx:c7 x)(gy:c7 y)(nx:bd x=false)(ny:bd y=false):gg [.tup ab,.int i,.int j]=sF (.bl (fP (x,i) (y,j))) :=
 aw rfl (az (bD (.tup [.int (a9 x),.int i]) (.tup [.int (a9 y),.int j]) (aJ [.tup ab,.int i] rfl (KQ hx gx nx)) (aJ [.tup ab,.int j] rfl (KQ hy gy ny)) (SU _ _ _ _)))
def A8 (r:D)(ri:Nat)(x:D×Nat):Bool:=fP x (r,ri) && ((Gp (a9 r) (iA x.1) && Jq (iA r) (iA x.1)) && rG r x.1)
theorem Jr {ab:List D}{ri li:Nat}{r l:D}(hr:ab[ri]? = some r)(hl:ab[li]? = some l)(gr:c7 r)(gl:c7 l)(kr:kindOf r∈eS)(kl:kindOf l=("leave" : Str)):∃d,iP [.tup ab,.int ri,.int li]=some (d,false)/\DQ d .non=sF (.bl (A8 r ri (l,li))):=by
 have nr:=iS kr;have nl:=iS (wB kl);obtain⟨d,e1,e2⟩:=yT gr gl kr (.inr kl);let E:DL.Env:=[sF (.tup ab),sF (.int ri),sF (.int li),some (r,false),some (iG (iA l),false)];have al:∀ρ:DL.Env,ρ[0]? = some (sF (.tup ab))->ρ[2]? = some (sF (.int li))->f2 bM (aj 0) (aj 2) ρ=some (l,false):=λρ h0 h2=>bD (.tup ab) (.int li) (by simp[h0]) (by simp[h2]) (by simp[cE hl]);have t1:bw (fA gg (fV 0 (fV 2 (fV 1 ai)))) E=some (fP (l,li) (r,ri)):=de (aJ [.tup ab,.int li,.int ri] rfl (yU hl hr gl gr nl nr));have t2:bw (fA jq (af (fA aO (fV 3 ai)) (fV 4 ai))) E=some (Gp (a9 r) (iA l)):=de (aJ [.int (a9 r),iG (iA l)] (aF (aJ [r] rfl (rJ gr nr)) (cj rfl rfl)) (BQ _ _ _));have t3:bw (fA iO (af (fA au (fV 3 (af (fS ("stretch" : Str)) ai))) (fV 4 ai))) E=some (Jq (iA r) (iA l)):=de (aJ [iG (iA r),iG (iA l)] (aF (aJ [r,.str "stretch"] rfl (Ce gr kr)) (cj rfl rfl)) (MY _ _));have t4:=cY (cn t2) λ_=>cn t3;have go:∀(h:FS)(res:Option Res),h E=res->aA (aQ 3 (f2 bM (aj 0) (aj 1))) (aA (aQ 4 (fA au (af (f2 bM (aj 0) (aj 2)) (af (fS ("stretch" : Str)) ai)))) h) [sF (.tup ab),sF (.int ri),sF (.int li),none,none]=res:=λh res k=>
  gd r (bD (.tup ab) (.int ri) rfl rfl (by simp[cE hr])) gr.flat (gd (iG (iA l)) (aJ [l,.str "stretch"] (aF (al _ rfl rfl) rfl) (Ce gl (wB kl))) (jv _) k)
 unfold A8;cases hA:fP (l,li) (r,ri) with
 |false=>exact⟨.str "order",aw rfl (go _ _ (bF (cn (p:=false) (t1.trans (by rw[hA]))) (az rfl))),rfl⟩
 |true=>
  cases hB:(Gp (a9 r) (iA l) && Jq (iA r) (iA l)) with
  |false=>exact⟨.str "days",aw rfl (go _ _ (aC (cn (p:=true) (t1.trans (by rw[hA]))) (bF (t4.trans (by rw[←Bool.not_and,hB];rfl)) (az rfl)))),rfl⟩
  |true=>exact⟨d,aw rfl (go _ _ (aC (cn (p:=true) (t1.trans (by rw[hA]))) (aC (t4.trans (by rw[←Bool.not_and,hB];rfl)) (az (aJ [r,l] (cj rfl (aF (al _ rfl rfl) rfl)) e1))))),e2⟩
theorem lT {ab:List D}{aa:Int}{i:Nat}{r:D}(hr:ab[i]? = some r)(g:c7 r):gf [.tup ab,.int aa,.int i]=sF (.bl (decide (bc r<=aa) && nY r)):=by
 have DX:cC [.tup ab,.int aa,.int i]=sF (.bl (decide (bc r<=aa))):=by
  obtain⟨a,k,aD,rfl,d⟩:=g;exact kI hr aa
 exact aw rfl (az (dB (aJ [.tup ab,.int aa,.int i] rfl DX) λ_=>bD (.str (kindOf r)) (.str "leave") (aJ [r] (cj (bD (.tup ab) (.int i) rfl rfl (by simp[cE hr])) rfl) (jc g.c)) rfl (by simp[nY])))
noncomputable def rL (K:KL)(p:Str):KL:=(K.filter λx=>nY x.1).filter λx=>decide (a7 2 x.1=p)
theorem Gq (g:∀r∈ab,c7 r)(h:x∈rL (ak ab aa) p):ab[x.2]? = some x.1/\c7 x.1/\kindOf x.1=("leave" : Str):=by
 obtain⟨h1,_⟩:=vN h;obtain⟨h2,h3⟩:=vN h1;exact⟨b7 h2,g _ (vL (b7 h2)),of_decide_eq_true h3⟩
theorem D1 {ab:List D}(g:∀r∈ab,c7 r)(hl:ab.length<=60)(aa:Int)(p:Str):kF [.tup ab,.int aa,.str p]=some (.lst ((rL (ak ab aa) p).map λx=>.int x.2),true):=by
 have QR:=cu ab aa;have h1:=iM (fi:=cq (fA cF (fV 0 (fV 1 ai)))) (nT:=1) (cap:=[0,1]) (tg:=dA 0) (c:=bw (fA gf (fV 1 (fV 2 (fV 0 ai))))) (fe:=aj 0)
  (ρ:=[sF (.tup ab),sF (.int aa),sF (.str p),none]) (ak ab aa) (λx=>.int x.2) (λx=>nY x.1) (λx=>.int x.2)
  (by show(fA cF _ _).bind _=_;rw[aJ [.tup ab,.int aa] rfl (kH ab (λr hr=>(g r hr).c.rp) (by omega) aa)];rfl) (by omega) λx hx=>by
   have hk:decide (bc x.1<=aa)=true:=(vN hx).2;have:=lT (aa:=aa) (b7 hx) (g _ (vL (b7 hx)));rw[hk,Bool.true_and]at this;exact⟨_,rfl,de (aJ [.tup ab,.int aa,.int x.2] rfl this),λ_=>⟨false,rfl⟩⟩
 have z7:bz (((ak ab aa).filter λx=>nY x.1).map λx=>D.int x.2)=true:=bY λd hd=>by obtain⟨x,_,rfl⟩:=vO hd;rfl
 refine aw rfl (cx h1 z7 (az ?_));refine iM (fi:=cq (aj 3)) (nT:=1) (cap:=[2,0]) (tg:=dA 0) (c:=bw (f2 dG (fA au (af (f2 bM (aj 2) (aj 0)) (af (fS ("person" : Str)) ai))) (aj 1))) (fe:=aj 0)
  (ρ:=[sF (.tup ab),sF (.int aa),sF (.str p),some (.lst (((ak ab aa).filter λx=>nY x.1).map λx=>.int x.2),true)]) ((ak ab aa).filter λx=>nY x.1) (λx=>.int x.2) (λx=>decide (a7 2 x.1=p)) (λx=>.int x.2) (by simp) (vR (vM _ _) (by omega)) λx hx=>?_
 obtain⟨h2,h3⟩:=vN hx;obtain⟨a,d,b,q,m,st,f,e,_⟩:=oH (g _ (vL (b7 h2))) (of_decide_eq_true h3);refine⟨[sF (.int x.2),sF (.str p),sF (.tup ab)],rfl,de (bD (.str (a7 2 x.1)) (.str p) (aJ [x.1,.str "person"] (cj (bD (.tup ab) (.int x.2) rfl rfl (by simp[cE (b7 h2)])) rfl) ?_) rfl (by simp)),λ_=>⟨false,rfl⟩⟩;rw[e];exact br (i:=2) (bi (by decide +kernel)) rfl
theorem D2 {ab:List D}(g:∀r∈ab,c7 r)(hl:ab.length<=60)(aa:Int){ri:Nat}{r:D}(hr:ab[ri]? = some r)(kr:kindOf r∈eS):
  jb [.tup ab,.int aa,.int ri]=some (.lst (((rL (ak ab aa) (cZ r)).filter (A8 r ri)).map λx=>.tup [.str "leave",.int x.2]),true):=by
 have gr:=g r (vL hr);have QR:=cu ab aa;have QV:(rL (ak ab aa) (cZ r)).length<=60:=vR (vM _ _) (vR (vM _ _) (by omega));have z7:bz ((rL (ak ab aa) (cZ r)).map λx=>D.int x.2)=true:=bY λd hd=>by obtain⟨x,_,rfl⟩:=vO hd;rfl
 refine aw rfl (cx (ds:=(rL (ak ab aa) (cZ r)).map λx=>.int x.2) (aJ [.tup ab,.int aa,.str (cZ r)] (cj rfl (cj rfl (aF (aJ [r,.str "by"] (cj (bD (.tup ab) (.int ri) rfl rfl (by simp[cE hr])) rfl) (Cc gr (i7 (.inl (rH kr))))) rfl))) (D1 g hl aa _)) z7 (az ?_));refine iM (fi:=cq (aj 3)) (nT:=1) (cap:=[0,2]) (tg:=dA 0) (c:=bw (f2 DQ (fA iP (fV 1 (fV 2 (fV 0 ai)))) (fC .non))) (fe:=fA aV (af (fS ("leave" : Str)) (fV 0 ai)))
  (ρ:=[sF (.tup ab),sF (.int aa),sF (.int ri),some (.lst ((rL (ak ab aa) (cZ r)).map λx=>.int x.2),true)]) (rL (ak ab aa) (cZ r)) (λx=>.int x.2) (A8 r ri) (λx=>.tup [.str "leave",.int x.2]) (by simp) (by omega) λx hx=>?_
 obtain⟨h1,h2,h3⟩:=Gq g hx;obtain⟨d,e1,e2⟩:=Jr hr h1 gr h2 kr h3;exact⟨[sF (.int x.2),sF (.tup ab),sF (.int ri)],rfl,de (bD d .non (aJ [.tup ab,.int ri,.int x.2] rfl e1) rfl e2),λ_=>⟨false,aJ [.str "leave",.int x.2] rfl (cy _ (by simp))⟩⟩
abbrev Bs:=Option Str×Int
noncomputable def z6:Bs->D
 | (some o,n)=>.tup [.str "office",.str o,.int n]
 | (none,n)=>.tup [.str "leave",.int n]
noncomputable def yV:Bs->List At
 | (some o,n)=>[.i n,.s ("office" : Str),.s o,.i n]
 | (none,n)=>[.i n,.s ("leave" : Str),.i n]
theorem Gr (b:Bs):bv (z6 b)=true:=by rcases b with⟨_|o,n⟩<;>rfl
theorem Js (b:Bs):bM (z6 b) (.int (-1))=sF (.int b.2):=by rcases b with⟨_|o,n⟩<;>rfl
theorem Gs (a b:Bs):(aY (yV a) (yV b)).isSome=true:=by
 have Ny:("office" : Str)≠("leave" : Str):=by decide +kernel
 rcases a with⟨_|o,n⟩<;>rcases b with⟨_|o',n'⟩
 ·show(aY [.i n,.s ("leave" : Str),.i n] [.i n',.s ("leave" : Str),.i n']).isSome=true;rw[aY];split
  ·rw[aY,if_pos rfl,aY];split
   ·rw[aY];rfl
   ·rfl
  ·rfl
 ·show(aY [.i n,.s ("leave" : Str),.i n] [.i n',.s ("office" : Str),.s o',.i n']).isSome=true;rw[aY];split
  ·rw[aY,if_neg (Ne.symm Ny)];rfl
  ·rfl
 ·show(aY [.i n,.s ("office" : Str),.s o,.i n] [.i n',.s ("leave" : Str),.i n']).isSome=true;rw[aY];split
  ·rw[aY,if_neg Ny];rfl
  ·rfl
 ·show(aY [.i n,.s ("office" : Str),.s o,.i n] [.i n',.s ("office" : Str),.s o',.i n']).isSome=true;rw[aY];split
  ·rw[aY,if_pos rfl,aY];split
   ·rw[aY];split
    ·rw[aY];rfl
    ·rfl
   ·rfl
  ·rfl
theorem Jt (h:yV a=yV b):a=b:=by
 rcases a with⟨_|o,n⟩<;>rcases b with⟨_|o',n'⟩<;>simp[yV]at h
 ·rw[h]
 ·rw[h.1,h.2.1]
theorem Cf (l:List Bs):di (l.map yV)=true:=by
 unfold di;simp[List.all_eq_true,Gs]
theorem Gu (e:cw (yV a)=cw (yV b)):a=b:=Jt (kT (Cf [a,b]) (by simp) (by simp) e)
def WD (cs:List Cl)(r v:D):Bs:=(some (a7 0 v),Gm cs r v)
def yW (K:KL)(cs:List Cl)(r:D)(ri:Nat):List Bs:=((bT K).filter (sv cs r)).map (WD cs r)++((rL K (cZ r)).filter (A8 r ri)).map λx=>(none,(x.2:Int))
def MZ (K:KL)(cs:List Cl)(r:D)(ri:Nat):List Bs:=dw (λb=>cw (yV b)) (yW K cs r ri)
theorem D3 (hn:((bT (ak ab aa)).map (a7 0)).Nodup)(cs:List Cl)(r:D)(ri:Nat):(yW (ak ab aa) cs r ri).Nodup:=by
 unfold yW;rw[List.nodup_append];refine⟨?_,?_,?_⟩
 ·exact List.pairwise_map.mpr ((List.Pairwise.sublist List.filter_sublist (List.pairwise_map.mp hn)).imp λh e=>h (vK (Prod.mk.inj e).1))
 ·refine List.pairwise_map.mpr ((List.Pairwise.sublist (List.filter_sublist.trans (List.filter_sublist.trans List.filter_sublist)) (List.pairwise_map.mp (eD ab aa))).imp λh e=>h ?_);have:=(Prod.mk.inj e).2;omega
 ·intro a ha b hb e;obtain⟨v,_,rfl⟩:=vO ha;obtain⟨x,_,rfl⟩:=vO hb;cases (Prod.mk.inj e).1
theorem ud {α:Type}{g:α->D}{h:α->List At}:∀(l:List α),(∀x∈l,MN (g x)=some (h x))->jo (l.map g)=some (l.map h)
 |[],_=>rfl
 |x::l,k=>by
  rw[uY,jo,k x mX,vJ,ud l λy hy=>k y (mZ _ hy)];rfl
theorem Cg (hl:ab.length<=30)(aa:Int)(cs:List Cl)(r:D)(ri:Nat):(yW (ak ab aa) cs r ri).length<=60:=by
 have h1:((bT (ak ab aa)).filter (sv cs r)).length<=30:=by
  refine vR (vM _ _) ?_;unfold bT;rw[vI];exact vR (vM _ _) (vR (cu ab aa) hl)
 have h2:((rL (ak ab aa) (cZ r)).filter (A8 r ri)).length<=30:=vR (vM _ _) (vR (vM _ _) (vR (vM _ _) (vR (cu ab aa) hl)));unfold yW;rw[uZ,vI,vI];omega
theorem Gv {f:FE}{ρ:DL.Env}{b:Bool}(l:List Bs)(hl:l.length<=60)(hn:l.Nodup)(e:f ρ=some (.lst (l.map z6),b)):Au f (qc [] (fA aV (af (f2 bM (aj 0) (f1 pF (fI 1))) (fV 0 ai)))) ρ=some (.lst ((dw (λb=>cw (yV b)) l).map z6),true):=by
 have hm:jB (qc [] (fA aV (af (f2 bM (aj 0) (f1 pF (fI 1))) (fV 0 ai))) ρ) (l.map z6)=some (l.map λb=>.tup [.int b.2,z6 b]):=ir l λb _=>by
  show(fA aV _ _).map _=_;rw[aJ [.int b.2,z6 b] (cj (bD (z6 b) (.int (-1)) rfl rfl (Js b)) (cj rfl rfl)) (cy _ (by simp))];rfl
 have hk:jo (l.map λb=>D.tup [.int b.2,z6 b])=some (l.map yV):=ud l λb _=>by rcases b with⟨_|o,n⟩<;>rfl
 have jy:(l.map yV).length<64/\di (l.map yV)=true/\True/\((l.map yV).map cw).Nodup:=by
  refine⟨by rw[vI];omega,Cf l,trivial,?_⟩;rw[uP];exact List.pairwise_map.mpr (List.Pairwise.imp (λh e=>h (Gu e)) hn)
 unfold Au vz;rw[e];simp only[vJ];rw[hm];simp only[vJ];rw[hk];simp only[vJ];rw[if_pos jy];unfold jn;have key:((dw (λb=>cw (yV b)) l).map λb=>(yV b,z6 b))=dw (λp:List At×D=>cw p.1) (l.map λb=>(yV b,z6 b)):=by
  refine ib _ (λx hx y hy e=>?_) ((b9 _ _).map _) ?_
  ·obtain⟨a,_,rfl⟩:=vO hx;obtain⟨b,_,rfl⟩:=vO hy;rw[Gu e]
  ·exact List.pairwise_map.mpr (ga _ _)
 rw[List.zip_map',←key,uP];rfl
section
variable {ab:List D}(g:∀r∈ab,c7 r) (hl:ab.length<=30) (aa:Int) (hn:((bT (ak ab aa)).map (a7 0)).Nodup)
include g hl hn
theorem yX (cs:List Cl)(wM:cs.length<=60){ri:Nat}{r:D}(hr:ab[ri]? = some r)(kr:kindOf r∈eS)(hk:bc r<=aa):dW [.tup ab,.int aa,.lst (cs.map aR),.int ri]=some (.lst ((MZ (ak ab aa) cs r ri).map z6),true):=by
 have gr:=g r (vL hr);have wd:∀(ρ:DL.Env)(j:Nat),ρ[0]? = some (sF (.tup ab))->ρ[j]? = some (sF (.int ri))->fA aK (af (f2 bM (aj 0) (aj j)) ai) ρ=sF (.str (kindOf r)):=λρ j h0 h2=>aJ [r] (cj (bD (.tup ab) (.int ri) (by simp[h0]) (by simp[h2]) (by simp[cE hr])) rfl) (jc gr.c);have DX:cC [.tup ab,.int aa,.int ri]=sF (.bl true):=by
  obtain⟨a,k,aD,rfl,d⟩:=id gr;rw[kI hr aa,decide_eq_true (show a<=aa from hk)]
 have U5:fu [.tup ab,.int aa,.int ri]=sF (.bl (decide (kindOf r∈[("paper" : Str),("like" : Str),("copy" : Str)]))):=aw rfl (az (dB (p:=true) (aJ [.tup ab,.int aa,.int ri] rfl DX) λ_=>bD (.str (kindOf r)) (.tup ([("paper" : Str),("like" : Str),("copy" : Str)].map .str)) (wd _ 2 rfl rfl) rfl (iq _ _)));have hb:dU [.tup ab,.int aa,.int ri]=sF (.bl true):=by
  refine(aw rfl (az (mE (aJ [.tup ab,.int aa,.int ri] rfl (lT hr gr)) λ_=>aJ [.tup ab,.int aa,.int ri] rfl U5))).trans ?_;rw[decide_eq_true hk,Bool.true_and];have:∀k∈eS,(decide (k=("leave" : Str)) || decide (k∈[("paper" : Str),("like" : Str),("copy" : Str)]))=true:=by decide +kernel
  unfold nY;rw[this _ kr]
 have QC:decide (kindOf r=("copy" : Str))=false:=by
  have:∀k∈eS,decide (k=("copy" : Str))=false:=by decide +kernel
  exact this _ kr
 have O5:=Cg hl aa cs r ri;have z7:bz ((yW (ak ab aa) cs r ri).map z6)=true:=bY λd hd=>by obtain⟨b,_,rfl⟩:=vO hd;exact Gr b
 refine aw rfl (aC (cn (p:=true) (de (aJ [.tup ab,.int aa,.int ri] rfl hb))) (aC (bR (a:=kindOf r) (bb:=false) (wd _ 3 rfl rfl) QC) (cx (ds:=(yW (ak ab aa) cs r ri).map z6) ?_ z7 (az (Gv (b:=false) _ O5 (D3 hn cs r ri) rfl)))));have ho:=D0 g (by omega) aa hn cs wM hr kr;have hv:=D2 g (by omega) aa hr kr;refine iY (x:=.lst (((bT (ak ab aa)).filter (sv cs r)).map (MX cs r))) (y:=.lst (((rL (ak ab aa) (cZ r)).filter (A8 r ri)).map λx=>.tup [.str "leave",.int x.2])) (b1:=true) (b2:=true) (aJ [.tup ab,.int aa,.lst (cs.map aR),.int ri] rfl ho) (aJ [.tup ab,.int aa,.int ri] rfl hv) ?_;have Rk:=O5;unfold yW at Rk ⊢;rw[uZ,vI,vI]at Rk;refine(if_pos (dP (by rw[vI,vI];omega))).trans ?_;rw[uW,uP,uP];rfl
end
def Na (K:KL)(c r:D):Bool:=decide (cZ c=cZ r) || (!decide (kindOf r=("copy" : Str)) && (bT K).any λv=>decide (je v &&& je r=je r) && iR (bj K) (a7 0 v) (a7 3 v) (cZ c) (a9 c))
theorem A9 {α:Type}(l:List α)(p f:α->Bool):((l.filter p).map f).any id=l.any λx=>p x && f x:=by
 induction l with
 |nil=>rfl
 |cons x l ih=>
  rw[List.filter_cons,List.any_cons,←ih];cases h:p x with
  |true=>rw[if_pos rfl,uY,List.any_cons];rfl
  |false=>rw[if_neg (by decide)];rfl
theorem Nb {ab:List D}(g:∀r∈ab,c7 r)(hl:ab.length<=60)(aa:Int)(bL:(bj (ak ab aa)).length<=60)(hn:((bT (ak ab aa)).map (a7 0)).Nodup){ci ri:Nat}{c r:D}(hc:ab[ci]? = some c)(hr:ab[ri]? = some r)(kc:kindOf c=("call" : Str))(kr:kindOf r∈bx):
  lN [.tup ab,.int aa,.lst ((bj (ak ab aa)).map aR),.int ci,.int ri]=sF (.bl (Na (ak ab aa) c r)):=by
 have gC:fQ ab:=⟨hl,λr hr=>(g r hr).c⟩;have gc:=g c (vL hc);have gr:=g r (vL hr);have ac:=cE hc;have ar:=cE hr;have pc:=Cc gc (i7 (.inr kc));have pr:=Cc gr (i7 (.inl kr));have Rj:∀v∈bT (ak ab aa),c7 v/\bd v=true:=λv hv=>by
  obtain⟨x,hx,rfl⟩:=vO hv;obtain⟨h1,h2⟩:=vN hx;exact⟨g _ (vL (b7 h1)),h2⟩
 have ZA:(bT (ak ab aa)).length<=60:=by
  unfold bT;rw[vI];exact vR (vM _ _) (vR (cu ab aa) hl)
 have jz:aO [c]=sF (.int (a9 c)):=by
  have:=qW gc.c;unfold sr at this;rwa [if_neg (by unfold bd;rw[kc];decide +kernel)]at this
 have Wm:∀(v7:Option (D×Bool)),bw (f2 dG (aj 6) (fA au (fV 5 (af (fS ("by" : Str)) ai)))) [sF (.tup ab),sF (.int aa),sF (.lst ((bj (ak ab aa)).map aR)),sF (.int ci),sF (.int ri),some (r,false),sF (.str (cZ c)),v7]=some (decide (cZ c=cZ r)):=λv7=>de (bD (.str (cZ c)) (.str (cZ r)) rfl (aJ [r,.str "by"] rfl pr) (by simp));have Wn:∀(v7:Option (D×Bool)),bw (f2 dG (fA aK (fV 5 ai)) (fS ("copy" : Str))) [sF (.tup ab),sF (.int aa),sF (.lst ((bj (ak ab aa)).map aR)),sF (.int ci),sF (.int ri),some (r,false),sF (.str (cZ c)),v7]=some (decide (kindOf r=("copy" : Str))):=λv7=>bR (a:=kindOf r) (bb:=false) (aJ [r] rfl (jc gr.c)) rfl;refine aw rfl (gd r (bD (.tup ab) (.int ri) rfl rfl (by simp[ar])) gr.flat (gd (.str (cZ c)) (aJ [c,.str "by"] (cj (bD (.tup ab) (.int ci) rfl rfl (by simp[ac])) rfl) pc) rfl ?_));unfold Na;cases h1:decide (cZ c=cZ r) with
 |true=>exact bF ((Wm none).trans (by rw[h1])) (az rfl)
 |false=>
  refine aC ((Wm none).trans (by rw[h1])) ?_;cases h2:decide (kindOf r=("copy" : Str)) with
  |true=>exact bF ((Wn none).trans (by rw[h2])) (az rfl)
  |false=>
   have kb:kindOf r∈eS:=by
    have oM:=of_decide_eq_false h2;have:∀k∈bx,k≠("copy" : Str)->k∈eS:=by decide +kernel
    exact this _ kr oM
   have pm:=w6 gr kb;refine aC ((Wn none).trans (by rw[h2])) ?_;have Lm:=iM (fi:=qp (fA gu (fV 0 (fV 1 ai)))) (nT:=1) (cap:=[5]) (tg:=dA 0) (c:=bw (fA im (af (fA au (fV 0 (af (fS ("matters" : Str)) ai))) (af (fA au (fV 1 (af (fS ("matters" : Str)) ai))) ai)))) (fe:=aj 0)
    (ρ:=[sF (.tup ab),sF (.int aa),sF (.lst ((bj (ak ab aa)).map aR)),sF (.int ci),sF (.int ri),some (r,false),sF (.str (cZ c)),none]) (bT (ak ab aa)) id (λv=>decide (je v &&& je r=je r)) id
    (by show(fA gu _ _).bind _=_;rw[aJ [.tup ab,.int aa] rfl (rq gC aa),rF hn];simp) (by omega) λv hv=>by
     obtain⟨gv,Li⟩:=Rj v hv;exact⟨[some (v,false),some (r,false)],rfl,de (aJ [.int (je v),.int (je r)] (aF (aJ [v,.str "matters"] rfl (Ca gv Li)) (aF (aJ [r,.str "matters"] rfl pm) rfl)) (uc _ _)),λ_=>⟨false,rfl⟩⟩
   rw[List.map_id]at Lm;refine cx (ds:=(bT (ak ab aa)).filter λv=>decide (je v &&& je r=je r)) Lm (bY λv hv=>(Rj v (vN hv).1).1.flat) (az ?_);have GU:=mF (fi:=cq (aj 7)) (nT:=1) (cap:=[2,6,0,3]) (tg:=dA 0) (fe:=fA cL (fV 1 (fV 0 (fV 2 (af (fA aO (af (f2 bM (aj 3) (aj 4)) ai)) ai)))))
    (ρ:=[sF (.tup ab),sF (.int aa),sF (.lst ((bj (ak ab aa)).map aR)),sF (.int ci),sF (.int ri),some (r,false),sF (.str (cZ c)),some (.lst ((bT (ak ab aa)).filter λv=>decide (je v &&& je r=je r)),true)]) ((bT (ak ab aa)).filter λv=>decide (je v &&& je r=je r)) id (λv=>.bl (iR (bj (ak ab aa)) (a7 0 v) (a7 3 v) (cZ c) (a9 c)))
    (by simp) (vR (vM _ _) (by omega)) λv hv=>by
     obtain⟨gv,Li⟩:=Rj v (vN hv).1;obtain⟨a,o,rl,m,f,rfl,_,_⟩:=rE gv Li;exact⟨[some (row a ("root" : Str) [.str o,.int m,.int f,.str rl],false),sF (.lst ((bj (ak ab aa)).map aR)),sF (.str (cZ c)),sF (.tup ab),sF (.int ci)],rfl,false,aJ [.lst ((bj (ak ab aa)).map aR),row a ("root" : Str) [.str o,.int m,.int f,.str rl],.str (cZ c),.int (a9 c)] (cj rfl (cj rfl (cj rfl (aF (aJ [c] (cj (bD (.tup ab) (.int ci) rfl rfl (by simp[ac])) rfl) jz) rfl)))) (wu _ bL _ _)⟩
   refine(aJ [_] (aF GU rfl) ?_);show(pL _).map _=_;rw[qy,Option.map_some,A9];rfl
theorem AA (g:c7 r)(h:kindOf r=("call" : Str)):∃a d b,∃n:Nat,r=row a ("call" : Str) [.int d,.str b,.int n]:=by
 obtain⟨a,k,aD,rfl,d⟩:=g;have hk:k=("call" : Str):=h;clear h;cases d with
 |copy k fG d b n=>subst hk;exact⟨a,d,b,n,rfl⟩
 |root=>exact absurd hk (by decide +kernel)
 |named=>exact absurd hk (by decide +kernel)
 |chosen=>exact absurd hk (by decide +kernel)
 |heir=>exact absurd hk (by decide +kernel)
 |three k fG=>rcases fG with rfl|rfl|rfl<;>exact absurd hk (by decide +kernel)
 |leave=>exact absurd hk (by decide +kernel)
 |paper k fG=>rcases fG with rfl|rfl<;>exact absurd hk (by decide +kernel)
def Ju (ab:List D)(aa:Int)(ri:Nat)(r:D)(day:Int)(c:D):Bool:=decide (kindOf c=("call" : Str)) && (decide (iz 2 c=ri) && (decide (a9 c<=day) && (eJ ab aa c && Na (ak ab aa) c r)))
theorem Nc (e:f ρ=some (.str a,bb)):bw (f2 CK f (fS b)) ρ=some (!decide (a=b)):=de (iY (x:=.str a) (y:=.str b) (b1:=bb) (b2:=false) e rfl (by simp))
section
variable {ab:List D}(g:∀r∈ab,c7 r) (hl:ab.length<=60) (aa:Int) (bL:(bj (ak ab aa)).length<=60) (hn:((bT (ak ab aa)).map (a7 0)).Nodup)
include g hl bL hn
theorem yY {ci ri:Nat}{c r:D}(hc:ab[ci]? = some c)(hr:ab[ri]? = some r)(kr:kindOf r∈bx)(day:Int):jF [.tup ab,.int aa,.lst ((bj (ak ab aa)).map aR),.int ci,.int ri,.int day]=sF (.bl (Ju ab aa ri r day c)):=by
 have gc:=g c (vL hc);have ac:=cE hc;have tw:bw (f2 CK (fA aK (fV 6 ai)) (fS ("call" : Str))) [sF (.tup ab),sF (.int aa),sF (.lst ((bj (ak ab aa)).map aR)),sF (.int ci),sF (.int ri),sF (.int day),some (c,false)]=some (!decide (kindOf c=("call" : Str))):=Nc (a:=kindOf c) (bb:=false) (aJ [c] rfl (jc gc.c));refine aw rfl (gd c (bD (.tup ab) (.int ci) rfl rfl (by simp[ac])) gc.flat ?_);unfold Ju;by_cases hk:kindOf c=("call" : Str)
 ·obtain⟨a,d,b,n,ec⟩:=AA gc hk;have e1:iz 2 c=(n:Int):=by rw[ec];rfl
  have e2:a9 c=d:=by rw[ec];rfl
  have po:au [c,.str "of"]=sF (.int n):=by rw[ec];exact br (i:=2) (bi (by decide +kernel)) rfl
  have pd:aO [c]=sF (.int d):=by
   have:=qW gc.c;unfold sr at this;rwa [if_neg (by unfold bd;rw[hk];decide +kernel),e2]at this
  have t2:bw (f2 CK (fA au (fV 6 (af (fS ("of" : Str)) ai))) (aj 4)) [sF (.tup ab),sF (.int aa),sF (.lst ((bj (ak ab aa)).map aR)),sF (.int ci),sF (.int ri),sF (.int day),some (c,false)]=some (!decide ((n:Int)=ri)):=de (bD (.int n) (.int ri) (aJ [c,.str "of"] rfl po) rfl (by simp));have t3:bw (f2 He (fA aO (fV 6 ai)) (aj 5)) [sF (.tup ab),sF (.int aa),sF (.lst ((bj (ak ab aa)).map aR)),sF (.int ci),sF (.int ri),sF (.int day),some (c,false)]=some (decide (day<d)):=de (bD (.int d) (.int day) (aJ [c] rfl pd) rfl rfl);have tt:=cY tw λ_=>cY t2 λ_=>t3;rw[e1,e2,decide_eq_true hk,Bool.true_and];rw[decide_eq_true hk]at tt;by_cases h1:(n:Int)=ri
  ·by_cases h2:d<=day
   ·rw[decide_eq_true h1,decide_eq_true h2,Bool.true_and,Bool.true_and];rw[decide_eq_true h1,decide_eq_false (by omega)]at tt;exact aC tt (az (dB (aJ [.tup ab,.int aa,.int ci] rfl (mQ ab (λr hr=>(g r hr).c.rp) (by omega) aa hc)) λ_=>aJ [.tup ab,.int aa,.lst ((bj (ak ab aa)).map aR),.int ci,.int ri] rfl (Nb g hl aa bL hn hc hr hk kr)))
   ·rw[decide_eq_false h2,Bool.false_and,Bool.and_false];rw[decide_eq_true h1,decide_eq_true (show day<d by omega)]at tt;exact bF tt (az rfl)
  ·rw[decide_eq_false h1,Bool.false_and];rw[decide_eq_false h1]at tt;exact bF tt (az rfl)
 ·rw[decide_eq_false hk,Bool.false_and];refine bF (cY (p:=true) (q:=false) (tw.trans (by rw[decide_eq_false hk];rfl)) λh=>by cases h) (az rfl)
def fw (ab:List D)(aa:Int)(ri:Nat)(r:D)(day:Int):List Nat:=if bc r<=aa/\kindOf r∈bx then ((ak ab aa).filter λx=>Ju ab aa ri r day x.1).map (·.2)else []
theorem oJ {ri:Nat}{r:D}(hr:ab[ri]? = some r)(day:Int):jG [.tup ab,.int aa,.lst ((bj (ak ab aa)).map aR),.int ri,.int day]=some (.lst ((fw ab aa ri r day).map λn:Nat=>.int n),true):=by
 have gr:=g r (vL hr);have ar:=cE hr;have DX:cC [.tup ab,.int aa,.int ri]=sF (.bl (decide (bc r<=aa))):=by
  obtain⟨a,k,aD,e,d⟩:=gr;rw[e]at hr;rw[show bc r=a by rw[e];rfl];exact kI hr aa
 have wd:∀ρ:DL.Env,ρ[0]? = some (sF (.tup ab))->ρ[2]? = some (sF (.int ri))->fA aK (af (f2 bM (aj 0) (aj 2)) ai) ρ=sF (.str (kindOf r)):=λρ h0 h2=>aJ [r] (cj (bD (.tup ab) (.int ri) (by simp[h0]) (by simp[h2]) (by simp[ar])) rfl) (jc gr.c);have QV:gf [.tup ab,.int aa,.int ri]=sF (.bl (decide (bc r<=aa) && decide (kindOf r=("leave" : Str)))):=aw rfl (az (dB (aJ [.tup ab,.int aa,.int ri] rfl DX) λ_=>bD (.str (kindOf r)) (.str "leave") (wd _ rfl rfl) rfl (by simp)));have U5:fu [.tup ab,.int aa,.int ri]=sF (.bl (decide (bc r<=aa) && decide (kindOf r∈[("paper" : Str),("like" : Str),("copy" : Str)]))):=aw rfl (az (dB (aJ [.tup ab,.int aa,.int ri] rfl DX) λ_=>bD (.str (kindOf r)) (.tup ([("paper" : Str),("like" : Str),("copy" : Str)].map .str)) (wd _ rfl rfl) rfl (iq _ _)));have hb:dU [.tup ab,.int aa,.int ri]=sF (.bl (decide (bc r<=aa/\kindOf r∈bx))):=by
  refine(aw rfl (az (mE (aJ [.tup ab,.int aa,.int ri] rfl QV) λ_=>aJ [.tup ab,.int aa,.int ri] rfl U5))).trans ?_;congr 3;simp only[bx,List.mem_cons,List.not_mem_nil,or_false];by_cases h1:bc r<=aa
  ·simp[h1]
  ·simp[h1]
 unfold fw;by_cases hx:bc r<=aa/\kindOf r∈bx
 ·rw[if_pos hx];refine aw rfl (aC (cn (p:=true) (de (aJ [.tup ab,.int aa,.int ri] rfl (by rw[hb,decide_eq_true hx])))) (az ?_));have Rm:=iM (fi:=cq (fA cF (fV 0 (fV 1 ai)))) (nT:=1) (cap:=[0,1,2,3,4]) (tg:=dA 0) (c:=bw (fA jF (fV 1 (fV 2 (fV 3 (fV 0 (fV 4 (fV 5 ai)))))))) (fe:=aj 0)
   (ρ:=[sF (.tup ab),sF (.int aa),sF (.lst ((bj (ak ab aa)).map aR)),sF (.int ri),sF (.int day)]) (ak ab aa) (λx=>.int x.2) (λx=>Ju ab aa ri r day x.1) (λx=>.int x.2)
   (by show(fA cF _ _).bind _=_;rw[aJ [.tup ab,.int aa] rfl (kH ab (λr hr=>(g r hr).c.rp) (by omega) aa)];rfl) (vR (cu ab aa) (by omega)) λx hx2=>by
    exact⟨_,rfl,de (aJ [.tup ab,.int aa,.lst ((bj (ak ab aa)).map aR),.int x.2,.int ri,.int day] rfl (yY g hl aa bL hn (b7 hx2) hr hx.2 day)),λ_=>⟨false,rfl⟩⟩
  rw[uP];exact Rm
 ·rw[if_neg hx];exact aw rfl (bF (cn (p:=false) (de (aJ [.tup ab,.int aa,.int ri] rfl (by rw[hb,decide_eq_false hx])))) (az (aJ [] rfl (gk _ (by simp)))))
omit bL in
theorem Gw (ho:(cI (ak ab aa)).length<=60){ri:Nat}{r:D}(hr:ab[ri]? = some r)(day:Int):p5 [.tup ab,.int aa,.int ri,.int day]=some (.lst ((fw ab aa ri r day).map λn:Nat=>.int n),true):=by
 obtain⟨ec,rS⟩:=nW (ab:=ab) ⟨hl,λr hr=>(g r hr).c⟩ aa ho;exact aw rfl (az (aJ [.tup ab,.int aa,.lst ((bj (ak ab aa)).map aR),.int ri,.int day] (cj rfl (cj rfl (aF (aJ [.tup ab,.int aa] rfl ec) (cj rfl (cj rfl rfl))))) (oJ g hl aa rS hn hr day)))
end
noncomputable def la:List Str:=[("paper" : Str),("like" : Str),("copy" : Str)]
noncomputable def Ch (w:Str):Bs->D
 | (some o,n)=>.tup [.str "office",.str o,.int n]
 | (none,n)=>.tup [.str w,.int n]
def Gx (r:D):Str:=if kindOf r=("copy" : Str)then ("copy" : Str)else ("leave" : Str)
theorem D4 (b:Bs):Ch ("leave" : Str) b=z6 b:=by rcases b with⟨_|o,n⟩<;>rfl
theorem D5 {ab:List D}{n:Nat}(h:ab.length<=n)(aa:Int):cC [.tup ab,.int aa,.int n]=sF (.bl false):=by
 refine aw rfl (az (dB (p:=false) (q:=false) (b1:=false) ?_ λz=>by cases z));have h1:¬(n:Int)<ab.length:=by omega
 exact(yx (p:=true) (q:=false) (x:=.int 0) (y:=.int n) (z:=.int ab.length) (b1:=false) (b2:=false) (b3:=false) (b4:=false) rfl rfl (by simp) (by simp) λ_=>by simp[h1])
theorem Gy {ab:List D}{i:Nat}{r:D}(hr:ab[i]? = some r)(g:c7 r)(aa:Int):cC [.tup ab,.int aa,.int i]=sF (.bl (decide (bc r<=aa))):=by
 obtain⟨a,k,aD,rfl,d⟩:=g;exact kI hr aa
theorem Ci {ab:List D}{i:Nat}{r:D}(hr:ab[i]? = some r)(g:c7 r){ρ:DL.Env}{j:Nat}(h0:ρ[0]? = some (sF (.tup ab)))(hj:ρ[j]? = some (sF (.int i))):fA aK (af (f2 bM (aj 0) (aj j)) ai) ρ=sF (.str (kindOf r)) :=
 aJ [r] (cj (bD (.tup ab) (.int i) (by simp[h0]) (by simp[hj]) (by simp[cE hr])) rfl) (jc g.c)
theorem yZ {ab:List D}{i:Nat}{r:D}(hr:ab[i]? = some r)(g:c7 r)(aa:Int):fu [.tup ab,.int aa,.int i]=sF (.bl (decide (bc r<=aa) && decide (kindOf r∈la))) :=
 aw rfl (az (dB (aJ [.tup ab,.int aa,.int i] rfl (Gy hr g aa)) λ_=>bD (.str (kindOf r)) (.tup (la.map .str)) (Ci hr g rfl rfl) rfl (iq _ _)))
theorem za {ab:List D}{i:Nat}{r:D}(hr:ab[i]? = some r)(g:c7 r)(aa:Int):dU [.tup ab,.int aa,.int i]=sF (.bl (decide (bc r<=aa) && decide (kindOf r∈bx))):=by
 refine(aw rfl (az (mE (aJ [.tup ab,.int aa,.int i] rfl (lT hr g)) λ_=>aJ [.tup ab,.int aa,.int i] rfl (yZ hr g aa)))).trans ?_;congr 3;unfold nY;simp only[bx,la,List.mem_cons,List.not_mem_nil,or_false];by_cases h1:bc r<=aa
 ·simp[h1]
 ·simp[h1]
def zb (ab:List D)(aa:Int)(r:D)(ri n:Nat):Bool:=match ab[n]? with
 |none=>false
 |some q=>(decide (bc q<=aa) && decide (kindOf q∈la)) && fP (q,n) (r,ri)
theorem AB (g:c7 r)(h:kindOf r=("copy" : Str)):∃a d b,∃n:Nat,r=row a ("copy" : Str) [.int d,.str b,.int n]:=by
 obtain⟨a,k,aD,rfl,d⟩:=g;have hk:k=("copy" : Str):=h;clear h;cases d with
 |copy k fG d b n=>subst hk;exact⟨a,d,b,n,rfl⟩
 |root=>exact absurd hk (by decide +kernel)
 |named=>exact absurd hk (by decide +kernel)
 |chosen=>exact absurd hk (by decide +kernel)
 |heir=>exact absurd hk (by decide +kernel)
 |three k fG=>rcases fG with rfl|rfl|rfl<;>exact absurd hk (by decide +kernel)
 |leave=>exact absurd hk (by decide +kernel)
 |paper k fG=>rcases fG with rfl|rfl<;>exact absurd hk (by decide +kernel)
theorem rM (h:kindOf r∈la):bd r=false:=by
 have:∀k∈la,decide (k=("root" : Str))=false:=by decide +kernel
 exact this _ h
theorem D6 {ab:List D}(g:∀r∈ab,c7 r)(aa:Int){ri:Nat}{r:D}(hr:ab[ri]? = some r)(kc:kindOf r=("copy" : Str)):∃n:Nat,iz 2 r=n/\jE [.tup ab,.int aa,.int ri]=some (.lst ((if zb ab aa r ri n=true then [((none,(n:Int)):Bs)]else []).map (Ch ("copy" : Str))),true):=by
 have gr:=g r (vL hr);obtain⟨a,d,b,n,er⟩:=AB gr kc;have nr:bd r=false:=rM (by rw[kc];decide +kernel);have po:au [r,.str "of"]=sF (.int n):=by rw[er];exact br (i:=2) (bi (by decide +kernel)) rfl
 refine⟨n,by rw[er];rfl,?_⟩;let E:DL.Env:=[sF (.tup ab),sF (.int aa),sF (.int ri),sF (.int n)];refine aw rfl (gd (.int n) (aJ [r,.str "of"] (cj (bD (.tup ab) (.int ri) rfl rfl (by simp[cE hr])) rfl) po) rfl ?_);have tt:eE (bw (fA fu (fV 0 (fV 1 (fV 3 ai))))) (bw (fA gg (fV 0 (fV 3 (fV 2 ai))))) E=some (zb ab aa r ri n):=by
  unfold zb;cases hq:ab[n]? with
  |none=>
   have hn:ab.length<=n:=List.getElem?_eq_none_iff.mp hq;exact dF (p:=false) (q:=false) (de (aJ [.tup ab,.int aa,.int n] rfl (aw rfl (az (dB (p:=false) (q:=false) (aJ [.tup ab,.int aa,.int n] rfl (D5 hn aa)) λz=>by cases z))))) λz=>by cases z
  |some q=>
   have gq:=g q (vL hq);exact dF (de (aJ [.tup ab,.int aa,.int n] rfl (yZ hq gq aa))) λh=>by
    rw[vC]at h;exact de (aJ [.tup ab,.int n,.int ri] rfl (yU hq hr gq gr (rM (of_decide_eq_true h.2)) nr))
 cases hv:zb ab aa r ri n with
 |true=>
  rw[hv]at tt;rw[if_pos rfl];exact bF tt (az (aJ [.tup [.str "copy",.int n]] (cj (aJ [.str "copy",.int n] rfl (cy _ (by simp))) rfl) (gk _ (by simp))))
 |false=>
  rw[hv]at tt;rw[if_neg (by decide)];exact aC tt (az (aJ [] rfl (gk _ (by simp))))
def ue (ab:List D)(aa:Int)(cs:List Cl)(x:D×Nat):List Bs:=if kindOf x.1=("copy" : Str)then (if zb ab aa x.1 x.2 (iz 2 x.1).toNat=true then [(none,iz 2 x.1)]else [])else MZ (ak ab aa) cs x.1 x.2
section
variable {ab:List D}(g:∀r∈ab,c7 r) (hl:ab.length<=30) (aa:Int) (hn:((bT (ak ab aa)).map (a7 0)).Nodup)
include g hl hn
theorem Cj (cs:List Cl)(wM:cs.length<=60){ri:Nat}{r:D}(hr:ab[ri]? = some r)(kr:kindOf r∈bx)(hk:bc r<=aa):dW [.tup ab,.int aa,.lst (cs.map aR),.int ri]=some (.lst ((ue ab aa cs (r,ri)).map (Ch (Gx r))),true):=by
 have gr:=g r (vL hr);unfold ue Gx;by_cases kc:kindOf r=("copy" : Str)
 ·rw[if_pos kc,if_pos kc];obtain⟨n,e1,e2⟩:=D6 g aa hr kc;rw[e1,Int.toNat_natCast];refine aw rfl (aC (cn (p:=true) (de (aJ [.tup ab,.int aa,.int ri] rfl ((za hr gr aa).trans (by rw[decide_eq_true hk,decide_eq_true kr];rfl))))) (bF (bR (a:=kindOf r) (bb:=false) (Ci hr gr rfl rfl) (decide_eq_true kc)) (az (aJ [.tup ab,.int aa,.int ri] rfl e2))))
 ·rw[if_neg kc,if_neg kc];have kb:kindOf r∈eS:=by
   have:∀k∈bx,k≠("copy" : Str)->k∈eS:=by decide +kernel
   exact this _ kr kc
  rw[show Ch ("leave" : Str)=z6 from funext D4];exact yX g hl aa hn cs wM hr kb hk
end
theorem Nd (e:f (ml ρ)=some (d,b))(k:h (ρ.set i (some (d,false)))=r):aA (xi i f) h ρ=r:=dm (ρ':=ρ.set i (some (d,false))) (by simp only[xi,e,Option.map_some]) k
theorem Ck (e:ρ[i]? = some (some (.dk ks vs,b))):jO i ρ=some (.rt (.dk ks vs) false):=by simp[jO,e]
noncomputable def kN (x:D×Nat):c8:=.inl (x.2:Int)
def Gz (ab:List D)(aa day:Int)(x:D×Nat):Bool:=(eJ ab aa x.1 && decide (a9 x.1<=day)) && (fw ab aa x.2 x.1 day).isEmpty
theorem Jv {α:Type}(l:List α)(f:α->D):decide ((((l.map f).length:Nat):Int)=0)=l.isEmpty:=by
 cases l with
 |nil=>rfl
 |cons a l=>rw[uY,vE];exact decide_eq_false (by omega)
noncomputable def lU (ab:List D)(aa day:Int)(l:KL):KL:=l.filter λx=>decide (kindOf x.1∈bx) && Gz ab aa day x
section
variable {ab:List D}(g:∀r∈ab,c7 r) (hl:ab.length<=30) (aa:Int) (hn:((bT (ak ab aa)).map (a7 0)).Nodup)
include g hl hn
theorem Nf (bL:(bj (ak ab aa)).length<=60){ri:Nat}{r:D}(hr:ab[ri]? = some r)(kr:kindOf r∈bx)(day:Int):mL [.tup ab,.int aa,.lst ((bj (ak ab aa)).map aR),.int ri,.int day]=sF (.bl (Gz ab aa day (r,ri))):=by
 have gr:=g r (vL hr);have nr:bd r=false:=by
  have:∀k∈bx,decide (k=("root" : Str))=false:=by decide +kernel
  exact this _ kr
 let E:DL.Env:=[sF (.tup ab),sF (.int aa),sF (.lst ((bj (ak ab aa)).map aR)),sF (.int ri),sF (.int day)];have t1:bw (fA dR (fV 0 (fV 1 (fV 3 ai)))) E=some (eJ ab aa r):=de (aJ [.tup ab,.int aa,.int ri] rfl (mQ ab (λr hr=>(g r hr).c.rp) (by omega) aa hr));have t2:bw (f2 He (fA aO (af (f2 bM (aj 0) (aj 3)) ai)) (aj 4)) E=some (decide (day<a9 r)):=de (bD (.int (a9 r)) (.int day) (aJ [r] (cj (bD (.tup ab) (.int ri) rfl rfl (by simp[cE hr])) rfl) (rJ gr nr)) rfl rfl);have tt:=cY (cn t1) λ_=>t2;have e:(!eJ ab aa r || decide (day<a9 r)) = !(eJ ab aa r && decide (a9 r<=day)):=by
  rw[Bool.not_and];congr 1;rw[←decide_not];congr 1;rw[Int.not_le]
 rw[e]at tt;unfold Gz;cases hA:(eJ ab aa r && decide (a9 r<=day)) with
 |false=>
  rw[hA]at tt;exact aw rfl (bF tt (az rfl))
 |true=>
  rw[hA]at tt;refine aw rfl (aC tt (az ?_));rw[Bool.true_and,←Jv (fw ab aa ri r day) λn:Nat=>.int n];exact bD (.int (((fw ab aa ri r day).map λn:Nat=>D.int n).length:Nat)) (.int 0) (aJ [.lst ((fw ab aa ri r day).map λn:Nat=>.int n)] (aF (aJ [.tup ab,.int aa,.lst ((bj (ak ab aa)).map aR),.int ri,.int day] rfl (oJ g (by omega) aa bL hn hr day)) rfl) rfl) rfl (by simp)
theorem G0 (ho:(cI (ak ab aa)).length<=60)(day:Int):wl [.tup ab,.int aa,.int day]=sF (.dk ((lU ab aa day (cI (ak ab aa))).map kN) ((lU ab aa day (cI (ak ab aa))).map λx=>.lst ((ue ab aa (bj (ak ab aa)) x).map (Ch (Gx x.1))))):=by
 have gC:fQ ab:=⟨by omega,λr hr=>(g r hr).c⟩;obtain⟨ec,rS⟩:=nW (ab:=ab) gC aa ho;have eL:dQ [.tup ab,.int aa]=some (.lst ((cI (ak ab aa)).map λx=>.int x.2),true):=oD gC aa;generalize wM:bj (ak ab aa)=cs at ec rS ⊢;have lg:∀x∈cI (ak ab aa),x∈ak ab aa:=λx hx=>(vN ((b9 _ _).mem_iff.mp hx)).1;have JR:((cI (ak ab aa)).map (·.2)).Nodup:=nV (eD ab aa);generalize cI (ak ab aa)=O at ho eL lg JR ⊢;let vD:D×Nat->D:=λx=>.lst ((ue ab aa cs x).map (Ch (Gx x.1)));let E:KL->Option (D×Bool)->DL.Env:=λL v5=>[sF (.tup ab),sF (.int aa),sF (.int day),sF (.lst (cs.map aR)),some (.dk (L.map kN) (L.map vD),true),v5];obtain⟨ρ',e,v5,rfl⟩:=gD (tg:=dA 5) (g:=y7) (λj ρ=>∃v5,ρ=E (lU ab aa day (O.take j)) v5) (O.map λx=>.int x.2) (E [] none) ⟨none,rfl⟩ (by
  rintro j d ρ hd ⟨v5,rfl⟩;rw[vA]at hd;obtain⟨x,hx,rfl⟩:=oY hd;have NH:=lg x (vL hx);have hr:=b7 NH;have DX:bc x.1<=aa:=of_decide_eq_true (vN NH).2;have gx:=g x.1 (vL hr);have et:O.take (j+1)=O.take j++[x]:=by rw[List.take_add_one,hx];rfl
  have ef:lU ab aa day (O.take (j+1))=lU ab aa day (O.take j)++if(decide (kindOf x.1∈bx) && Gz ab aa day x)=true then [x]else []:=by
   unfold lU;rw[et,List.filter_append,List.filter_cons];split<;>rfl
  have Wo:x.2∉(lU ab aa day (O.take j)).map (·.2):=by
   have h2:((O.take (j+1)).map (·.2)).Nodup:=List.Nodup.sublist (List.Sublist.map _ (List.take_sublist _ _)) JR;rw[et,uW,List.nodup_append]at h2;intro hm;obtain⟨y,hy,ey⟩:=vO hm;exact h2.2.2 _ (uS ⟨y,(vN hy).1,rfl⟩) _ (by simp) ey
  have Wp:(lU ab aa day (O.take j)).length<=60:=vR (vM _ _) (vR (List.length_take_le' _ _) ho);generalize lU ab aa day (O.take j)=L at ef Wo Wp;let F:DL.Env:=E L (sF (.int x.2));have t1:bw (fA dU (fV 0 (fV 1 (fV 5 ai)))) F=some (decide (kindOf x.1∈bx)):=de (aJ [.tup ab,.int aa,.int x.2] rfl ((za hr gx aa).trans (by rw[decide_eq_true DX,Bool.true_and])));have tt:=dF t1 λh=>de (f:=fA mL (fV 0 (fV 1 (fV 3 (fV 5 (fV 2 ai)))))) (aJ [.tup ab,.int aa,.lst (cs.map aR),.int x.2,.int day] rfl (by rw[←wM];exact Nf g hl aa hn (by rw[wM];exact rS) hr (of_decide_eq_true h) day));refine⟨F,E (L++if(decide (kindOf x.1∈bx) && Gz ab aa day x)=true then [x]else []) (sF (.int x.2)),rfl,.inl (FN tt (λh=>?_) λh=>?_),sF (.int x.2),by rw[ef]⟩
  ·rw[if_pos h];have kb:kindOf x.1∈bx:=by rw[vC]at h;exact of_decide_eq_true h.1
   have NJ:qt 4 (aj 5) (fA dW (fV 0 (fV 1 (fV 3 (fV 5 ai))))) F=some (.nx (F.set 4 (some (.dk (dD (L.map kN) (kN x)) (dE (L.map kN) (L.map vD) (kN x) (vD x)),true)))):=by
    have ev:fA dW (fV 0 (fV 1 (fV 3 (fV 5 ai)))) (ml F)=some (vD x,true):=aJ [.tup ab,.int aa,.lst (cs.map aR),.int x.2] rfl (Cj g hl aa hn cs rS hr kb DX);show((fA dW _ (ml F)).bind _)=_;rw[ev];simp only[vJ];exact if_pos (c:=(L.map kN).length<sizeLine) (bA (by rw[vI];omega))
   rw[NJ];have hk:kN x∉L.map kN:=λhm=>by
    obtain⟨y,hy,ey⟩:=vO hm;exact Wo (uS ⟨y,hy,by have:=Sum.inl.inj (show(Sum.inl (y.2:Int):c8)=Sum.inl (x.2:Int)from ey);omega⟩)
   unfold dD dE;rw[if_neg hk,if_neg hk];simp[F,E]
  ·rw[h,if_neg (by decide),uQ];rfl)
 rw[vI,List.take_length]at e;exact aw rfl (Nd (aJ [.tup ab,.int aa] rfl ec) (dm (ρ':=E [] none) rfl (dm (jD (ds:=O.map λx=>.int x.2) (by show(fA dQ _ _).bind _=_;rw[aJ [.tup ab,.int aa] rfl eL];rfl) e) (Ck (b:=true) rfl))))
end
noncomputable def nK (n:Nat):c8:=.inl (n:Int)
noncomputable def Hj:Nat->D:=λ_=>.bl true
noncomputable def gO (S:List Nat)(b:Bs):Bool:=b.1.isSome || S.any λn=>decide ((n:Int)=b.2)
noncomputable def eU (S:List Nat)(p:Nat×List Bs):List Nat:=if p.2.any (gO S)=true then S++[p.1]else S
noncomputable def iB (l:List (Nat×List Bs)):List Nat:=l.foldl eU []
theorem zc (n:Int):∀S:List Nat,(cH (S.map nK) (S.map Hj) (.inl n)).isSome=S.any λm=>decide ((m:Int)=n)
 |[]=>rfl
 |m::S=>by
  rw[uY,uY,cH,List.any_cons];by_cases h:(m:Int)=n
  ·rw[if_pos (show nK m=.inl n by unfold nK;rw[h]),decide_eq_true h];rfl
  ·rw[if_neg (show ¬nK m=.inl n from λz=>h (Sum.inl.inj z)),decide_eq_false h,zc n S];rfl
theorem G1 (hw:decide (w=("office" : Str))=false)(S:List Nat)(b:Bs):mM [Ch w b,.dk (S.map nK) (S.map Hj)]=sF (.bl (gO S b)):=by
 unfold gO;rcases b with⟨_|o,n⟩
 ·refine aw rfl (az (mE (p:=false) (b1:=false) (bD (.str w) (.str "office") rfl rfl (by simp[of_decide_eq_false hw])) λ_=>bD (.int n) (.dk (S.map nK) (S.map Hj)) rfl rfl ?_));show some (D.bl (cH (S.map nK) (S.map Hj) (.inl n)).isSome,false)=_;rw[zc]
 ·exact aw rfl (az (mE (p:=true) (q:=S.any λm=>decide ((m:Int)=n)) (b1:=false) (bD (.str "office") (.str "office") rfl rfl (by simp)) λh=>by cases h))
theorem any_map {α:Type}(l:List α)(f:α->Bool):zZ [.lst (l.map λx=>.bl (f x))]=sF (.bl (l.any f)):=by
 show(pL _).map _=_;rw[qy,Option.map_some,List.any_map];rfl
theorem G2 (h:m∈eU S p):m∈S∨m=p.1:=by
 unfold eU at h;split at h
 ·simpa using h
 ·exact .inl h
theorem ug:∀(l:List (Nat×List Bs))(S:List Nat)(m:Nat),m∈l.foldl eU S->m∈S∨m∈l.map (·.1)
 |[],_,_,h=>.inl h
 |p::l,S,m,h=>by
  rcases ug l _ m h with h|h
  ·rcases G2 h with h|rfl
   ·exact .inl h
   ·exact .inr (by simp)
  ·exact .inr (mZ _ h)
abbrev Rs:=Nat×Str×List Bs
noncomputable def KR (p:Rs):D:=.lst (p.2.2.map (Ch p.2.1))
noncomputable def Cm (p:Rs):Nat×List Bs:=(p.1,p.2.2)
theorem G3 (l:List Rs)(hl:l.length<=60)(hw:∀p∈l,decide (p.2.1=("office" : Str))=false)(hb:∀p∈l,p.2.2.length<=100)(hn:(l.map (·.1)).Nodup):wm [.dk (l.map λp=>nK p.1) (l.map KR)]=sF (.dk ((iB (l.map Cm)).map nK) ((iB (l.map Cm)).map Hj)):=by
 let E:List Nat->Option (D×Bool)->Option (D×Bool)->DL.Env:=λS v2 v3=>[sF (.dk (l.map λp=>nK p.1) (l.map KR)),some (.dk (S.map nK) (S.map Hj),true),v2,v3];have Hl:lJ (l.map λp=>nK p.1) (l.map KR)=l.map λp=>.tup [.int (p.1:Int),KR p]:=by
  unfold lJ;rw[List.zip_map',uP];rfl
 obtain⟨ρ',e,v2,v3,rfl⟩:=gD (tg:=K2 [2,3]) (g:=y8) (λj ρ=>∃v2 v3,ρ=E (iB ((l.take j).map Cm)) v2 v3) (l.map λp=>.tup [.int (p.1:Int),KR p]) (E [] none none) ⟨none,none,rfl⟩ (by
  rintro j d ρ hd ⟨v2,v3,rfl⟩;rw[vA]at hd;obtain⟨p,hp,rfl⟩:=oY hd;have RK:=vL hp;have et:l.take (j+1)=l.take j++[p]:=by rw[List.take_add_one,hp];rfl
  have es:iB ((l.take (j+1)).map Cm)=eU (iB ((l.take j).map Cm)) (Cm p):=by
   rw[et,uW];unfold iB;rw[List.foldl_append];rfl
  have Ou:p.1∉iB ((l.take j).map Cm):=λhm=>by
   have h2:((l.take (j+1)).map (·.1)).Nodup:=List.Nodup.sublist (List.Sublist.map _ (List.take_sublist _ _)) hn;rw[et,uW,List.nodup_append]at h2;rcases ug _ _ _ hm with h|h
   ·cases h
   ·rw[uP]at h;exact h2.2.2 _ h _ (by simp) rfl
  have RN:(iB ((l.take j).map Cm)).length<=60:=by
   have:∀(q:List (Nat×List Bs))(S:List Nat),(q.foldl eU S).length<=S.length+q.length:=λq=>by
    induction q with
    |nil=>intro S;exact vT _
    |cons a q ih=>
     intro S;refine vR (ih _) ?_;unfold eU;split
     ·rw[uZ,vE,List.length_nil,vE];omega
     ·rw[vE];omega
   have h3:=this ((l.take j).map Cm) [];rw[vI,List.length_take,List.length_nil]at h3;exact vR h3 (by omega)
  generalize iB ((l.take j).map Cm)=S at es Ou RN;let F:DL.Env:=E S (sF (.int (p.1:Int))) (some (KR p,false));have hc:=mF (fi:=cq (aj 3)) (nT:=1) (cap:=[1]) (tg:=dA 0) (fe:=fA mM (fV 0 (fV 1 ai))) (ρ:=F) p.2.2 (Ch p.2.1) (λb=>.bl (gO S b)) rfl (by have:=hb p RK;omega) λb _=>⟨[some (Ch p.2.1 b,false),sF (.dk (S.map nK) (S.map Hj))],rfl,false,aJ [Ch p.2.1 b,.dk (S.map nK) (S.map Hj)] rfl (G1 (hw p RK) S b)⟩;have t1:bw (fA zZ (af (bS (cq (aj 3)) 1 [1] (dA 0) gz (fA mM (fV 0 (fV 1 ai)))) ai)) F=some (p.2.2.any (gO S)):=de (aJ [.lst (p.2.2.map λb=>.bl (gO S b))] (aF hc rfl) (any_map _ _));refine⟨F,E (eU S (Cm p)) (sF (.int (p.1:Int))) (some (KR p,false)),rfl,.inl (FN t1 (λh=>?_) λh=>?_),_,_,by rw[es]⟩
  ·have hk:nK p.1∉S.map nK:=λhm=>by
    obtain⟨y,hy,ey⟩:=vO hm;have:=Sum.inl.inj (show(Sum.inl (y:Int):c8)=Sum.inl (p.1:Int)from ey);exact Ou (by rw[show p.1=y by omega];exact hy)
   have NJ:yq 1 (aj 2) (fC (.bl true)) F=some (.nx (F.set 1 (some (.dk (dD (S.map nK) (nK p.1)) (dE (S.map nK) (S.map Hj) (nK p.1) (.bl true)),true)))):=if_pos (c:=bv (.bl true)=true/\(S.map nK).length<sizeLine) ⟨rfl,bA (by rw[vI];omega)⟩;rw[NJ];unfold dD dE eU;rw[if_neg hk,if_neg hk,if_pos (show(Cm p).2.any (gO S)=true from h)];simp[F,E,Cm,Hj]
  ·unfold eU;rw[if_neg (show ¬(Cm p).2.any (gO S)=true by show ¬p.2.2.any (gO S)=true;rw[h];decide)];rfl)
 rw[vI,List.take_length]at e;exact aw rfl (dm (ρ':=E [] none none) rfl (dm (jD (ds:=l.map λp=>.tup [.int (p.1:Int),KR p]) (by show some (lJ _ _)=_;rw[Hl]) e) (Ck (b:=true) rfl)))
theorem uh:∀S:List Nat,tM (S.map nK)=some (S.map λ(n:Nat)=>(n:Int))
 |[]=>rfl
 |n::S=>by
  show(tM (S.map nK)).map _=_;rw[uh S];rfl
theorem zd {α β:Type}(g:α->β)(f:β->List Int)(x:α):∀l:List α,nE f (g x) (l.map g)=(nE (λa=>f (g a)) x l).map g
 |[]=>rfl
 |y::r=>by
  rw[uY,nE,nE];split
  ·rw[uY,zd g f x r]
  ·rfl
theorem ui {α β:Type}(g:α->β)(f:β->List Int):∀l:List α,dw f (l.map g)=(dw (λa=>f (g a)) l).map g
 |[]=>rfl
 |x::l=>by
  show nE f (g x) (dw f (l.map g))=(nE (λa=>f (g a)) x (dw (λa=>f (g a)) l)).map g;rw[ui g f l,zd]
theorem Ng (e:f ρ=some (.tup [x,y],b))(hx:bv x=true)(hy:bv y=true)(k:h ((ρ.set i (some (x,false))).set j (some (y,false)))=r):aA (xK [i,j] f) h ρ=r:=by
 refine dm (ρ':=(ρ.set i (some (x,false))).set j (some (y,false))) ?_ k;have hn:bz [x,y]=true:=by simp[hx,hy]
 simp only[xK,e,vJ,gN,hn,if_true];simp[fO]
theorem G4 (n:Int)(S:List Nat):Hf (.int n) (S.map λ(m:Nat)=>D.int (m:Int))=S.any λm=>decide ((m:Int)=n):=by
 unfold Hf;induction S with
 |nil=>rfl
 |cons m S ih=>
  rw[uY,List.any_cons,ih,List.any_cons];by_cases h:(m:Int)=n
  ·simp[h]
  ·simp[h,Ne.symm h]
def kL (ab:List D)(aa:Int)(x:D×Nat):List Bs:=ue ab aa (bj (ak ab aa)) x
def jd (ab:List D)(aa day:Int):List Nat:=iB ((lU ab aa day (cI (ak ab aa))).map λx=>(x.2,kL ab aa x))
def eF (S:List Nat):List D:=(ko (S.map λ(n:Nat)=>(n:Int))).map .int
theorem G5 (r:D):decide (Gx r=("office" : Str))=false:=by
 unfold Gx;split
 ·decide +kernel
 ·decide +kernel
theorem D7 (S:List Nat)(h:S.length<=60):eX [.lst (S.map λ(n:Nat)=>.int (n:Int))]=some (.lst (eF S),true):=by
 cases S with
 |nil=>rfl
 |cons n S=>
  have h1:fN ((n::S).map λ(n:Nat)=>D.int (n:Int))=none:=rfl;have h2:∀l:List Nat,m6 (l.map λ(n:Nat)=>D.int (n:Int))=some (l.map λ(n:Nat)=>(n:Int)):=λl=>by
   induction l with
   |nil=>rfl
   |cons a l ih=>rw[uY,m6,ih];rfl
  unfold eX;simp only[h1,h2 (n::S)];rw[if_pos (by rw[vI];omega)];rfl
theorem D8 (L:KL)(hL:L.length<=60):eX [.lst (L.map λx=>.tup [.int (a9 x.1),.int x.2])]=some (.lst ((dw (λx=>cw (kA x)) L).map λx=>.tup [.int (a9 x.1),.int x.2]),true):=by
 cases L with
 |nil=>rfl
 |cons v L=>
  have h1:fN ((v::L).map λx=>D.tup [.int (a9 x.1),.int x.2])=none:=rfl;have h2:m6 ((v::L).map λx=>D.tup [.int (a9 x.1),.int x.2])=none:=rfl;have h3:dj ((v::L).map λx=>D.tup [.int (a9 x.1),.int x.2])=some ((v::L).map kA):=gh _ λx _=>rfl;unfold eX;simp only[h1,h2,h3];rw[if_pos]
  ·rw[ui];rfl
  ·refine⟨by rw[vI];omega,p6 _,?_⟩;unfold cW;rw[Bool.or_eq_true];left;rw[List.all_eq_true];intro x hx;obtain⟨a,_,rfl⟩:=vO hx;rfl
theorem AD (K:KL)(hK:(K.map (·.2)).Nodup)(q:D×Nat->Bool)(hq:∀x,q x=true->bd x.1=false):dw (λx=>cw (kA x)) (K.filter q)=(cI K).filter q:=by
 refine(ib (λx=>cw (kA x)) (λx hx y hy e=>nU (·.2) hK (vN hx).1 (vN hy).1 (A1 e)) ?_ (List.Pairwise.filter _ (ga _ _))).symm;refine((b9 _ _).filter q).trans ?_;rw[List.filter_filter];have:(K.filter λx=>q x && !bd x.1)=K.filter q:=by
  congr 1;funext x;cases h:q x with
  |false=>rfl
  |true=>rw[hq x h];rfl
 rw[this]
theorem uj {α:Type}(c:α->Bool)(f:α->Nat×List Bs):∀(l:List α)(S:List Nat),l.foldl (λS x=>if c x=true then eU S (f x)else S) S=((l.filter c).map f).foldl eU S
 |[],_=>rfl
 |x::l,S=>by
  rw[List.foldl_cons,uj c f l,List.filter_cons];cases h:c x with
  |true=>rw[if_pos rfl,if_pos rfl,uY,List.foldl_cons]
  |false=>rw[if_neg (by decide),if_neg (by decide)]
theorem wC (h:kindOf r∈bx):bd r=false:=by
 have:∀k∈bx,decide (k=("root" : Str))=false:=by decide +kernel
 exact this _ h
section
variable {ab:List D}(g:∀r∈ab,c7 r) (hl:ab.length<=30) (aa:Int) (hn:((bT (ak ab aa)).map (a7 0)).Nodup) (ho:(cI (ak ab aa)).length<=60)
include hl
theorem ze (x:D×Nat):(kL ab aa x).length<=60:=by
 unfold kL ue;split
 ·split
  ·exact(by decide:1<=60)
  ·exact uN _
 ·unfold MZ;rw[(b9 _ _).length_eq];exact Cg hl aa _ _ _
theorem nZ (day:Int):(jd ab aa day).length<=60:=by
 have:∀(q:List (Nat×List Bs))(S:List Nat),(q.foldl eU S).length<=S.length+q.length:=λq=>by
  induction q with
  |nil=>intro S;exact vT _
  |cons a q ih=>
   intro S;refine vR (ih _) ?_;unfold eU;split
   ·rw[uZ,vE,List.length_nil,vE];omega
   ·rw[vE];omega
 have h3:=this ((lU ab aa day (cI (ak ab aa))).map λx=>(x.2,kL ab aa x)) [];have h4:(cI (ak ab aa)).length<=30:=by
  unfold cI;rw[(b9 _ _).length_eq];exact vR (vM _ _) (vR (cu ab aa) hl)
 have h5:(lU ab aa day (cI (ak ab aa))).length<=30:=vR (vM _ _) h4;rw[vI,List.length_nil]at h3;exact vR h3 (by omega)
include g hn ho
theorem zf (day:Int):jH [.tup ab,.int aa,.int day]=some (.lst (eF (jd ab aa day)),true):=by
 have el:=G0 g hl aa hn ho day;have h4:(lU ab aa day (cI (ak ab aa))).length<=60:=vR (vM _ _) ho;have es:=G3 ((lU ab aa day (cI (ak ab aa))).map λx=>(x.2,Gx x.1,kL ab aa x)) (by rw[vI];exact h4)
  (λp hp=>by obtain⟨x,_,rfl⟩:=vO hp;exact G5 _) (λp hp=>by obtain⟨x,_,rfl⟩:=vO hp;exact vR (ze hl aa x) (by decide))
  (by rw[uP];exact List.Nodup.sublist (List.Sublist.map _ List.filter_sublist) (nV (eD ab aa)))
 rw[uP,uP,uP]at es;refine aw rfl (az (aJ [_] (aF (aJ [_] (aF (aJ [.tup ab,.int aa,.int day] rfl el) rfl) es) rfl) ?_));show(tM ((jd ab aa day).map nK)).bind _=_;rw[uh,vJ,if_pos (by rw[vI];have:=nZ hl aa day;omega)];rfl
theorem Nh (day:Int):wn [.tup ab,.int aa,.int day]=some (.lst (eF (jd ab aa day)),true):=by
 have gC:fQ ab:=⟨by omega,λr hr=>(g r hr).c⟩;obtain⟨ec,rS⟩:=nW (ab:=ab) gC aa ho;let q1:D×Nat->Bool:=λx=>decide (kindOf x.1∈bx) && decide (a9 x.1<=day);let P1:D×Nat->Bool:=λx=>q1 x && decide (bc x.1<=aa);let tD:D×Nat->D:=λx=>.tup [.int (a9 x.1),.int x.2]
 -- the ab that may stand
 let E:KL->Option (D×Bool)->Option (D×Bool)->Option (D×Bool)->DL.Env:=λL v4 v5 v6=>[sF (.tup ab),sF (.int aa),sF (.int day),some (.lst (L.map tD),true),v4,v5,v6,none,none];obtain⟨ρ1,e1,v4,v5,v6,rfl⟩:=ky (tg:=dA 4) (g:=yC) ab.length (λi ρ=>∃v4 v5 v6,ρ=E ((ab.zipIdx.take i).filter P1) v4 v5 v6) (E [] none none none) ⟨none,none,none,rfl⟩ (by
  rintro i ρ hi ⟨v4,v5,v6,rfl⟩;have hx:ab[i]? = some ab[i]:=vU hi;generalize ab[i]=x at hx;have gx:=g x (vL hx);obtain⟨xa,xk,xr,ex,xd⟩:=id gx;have et:(ab.zipIdx.take (i+1)).filter P1=(ab.zipIdx.take i).filter P1++if P1 (x,i)=true then [(x,i)]else []:=by
   rw[List.take_add_one,List.getElem?_zipIdx,hx,List.filter_append];show _++List.filter P1 [(x,0+i)]=_;rw[Nat.zero_add,List.filter_cons];split<;>rfl
  generalize hL:(ab.zipIdx.take i).filter P1=L at et;have Wp:L.length<=30:=by rw[←hL];exact vR (vM _ _) (vR (List.length_take_le' _ _) (by rw[List.length_zipIdx];exact hl))
  have YN:bv (.tup (.str xk::xr))=true:=by simp[xd.flat]
  have YO:bc x=xa:=by rw[ex];rfl
  have YQ:kindOf x=xk:=by rw[ex];rfl
  let F:DL.Env:=E L (sF (.int i)) (sF (.int xa)) (sF (.tup (.str xk::xr)));have c1:bw (f2 wK (aj 5) (aj 1)) F=some (decide (xa<=aa)):=de (by simp[F,E]);have c2:bw (f2 xE (dI 6 0) (fA aV (af (fS ("leave" : Str)) (af (fS ("paper" : Str)) (af (fS ("like" : Str)) (af (fS ("copy" : Str)) ai)))))) F=some (decide (xk∈bx)):=de (bD (.str xk) (.tup (bx.map .str)) (bD (.tup (.str xk::xr)) (.int 0) rfl rfl (by simp[Hh])) (aJ (bx.map .str) rfl (cy _ (by decide))) (iq _ _));have x1:xk∈bx->dI 6 1 F=sF (.int (a9 x)):=λh=>by
   obtain⟨dd,b2,q,er⟩:=Cb xd (i7 (.inl h));have:a9 x=dd:=by rw[ex,er];rfl
   rw[this];exact bD (.tup (.str xk::xr)) (.int 1) rfl rfl (by rw[er];simp[Hi])
  have tt:=dF c1 λ_=>dF c2 λh=>de (f:=f2 wK (dI 6 1) (aj 2)) (bD (.int (a9 x)) (.int day) (x1 (of_decide_eq_true h)) rfl (z:=sF (.bl (decide (a9 x<=day)))) (by simp));have hP:P1 (x,i)=(decide (xa<=aa) && (decide (xk∈bx) && decide (a9 x<=day))):=by
   show((decide (kindOf x∈bx) && decide (a9 x<=day)) && decide (bc x<=aa))=_;rw[YO,YQ,Bool.and_comm]
  rw[←hP]at tt;refine⟨_,_,rfl,.inl (Ng (x:=.int xa) (y:=.tup (.str xk::xr)) (b:=false) (bD (.tup ab) (.int i) rfl rfl ?_) rfl YN (r:=some (.nx (E (L++if P1 (x,i)=true then [(x,i)]else []) (sF (.int i)) (sF (.int xa)) (sF (.tup (.str xk::xr)))))) (show eG _ _ _ F=_ from FN tt (λh=>?_) λh=>?_)),_,_,_,by rw[et]⟩
  ·have ax:=cE hx;rw[show x=.tup [.int xa,.tup (.str xk::xr)]from ex]at ax;simp[ax]
  ·have hk:xk∈bx:=by rw[hP,vC,vC]at h;exact of_decide_eq_true h.2.1
   rw[h,if_pos rfl];refine(gK (ds:=L.map tD) (d:=tD (x,i)) (b:=false) rfl (aJ [.int (a9 x),.int i] (aF (x1 hk) (cj rfl rfl)) (cy _ (by simp))) rfl (bA (by rw[vI];omega))).trans ?_;simp[F,E,tD]
  ·rw[h,if_neg (by decide),uQ];rfl)
 rw[show ab.zipIdx.take ab.length=ab.zipIdx from List.take_of_length_le (by rw[List.length_zipIdx];exact vT _)]at e1;have hO:ab.zipIdx.filter P1=(ak ab aa).filter q1:=by unfold ak;rw[List.filter_filter]
 rw[hO]at e1;have ZB:((ak ab aa).filter q1).length<=30:=vR (vM _ _) (vR (cu ab aa) hl);have GX:=D8 ((ak ab aa).filter q1) (by omega);rw[AD _ (eD ab aa) q1 λx h=>wC (by rw[show q1 x=(decide (kindOf x.1∈bx) && decide (a9 x.1<=day))from rfl,vC]at h;exact of_decide_eq_true h.1)]at GX;have lg:∀x∈(cI (ak ab aa)).filter q1,x∈ak ab aa/\kindOf x.1∈bx:=λx hx=>by
  obtain⟨h1,h2⟩:=vN hx;rw[show q1 x=(decide (kindOf x.1∈bx) && decide (a9 x.1<=day))from rfl,vC]at h2;exact⟨(vN ((b9 _ _).mem_iff.mp h1)).1,of_decide_eq_true h2.1⟩
 let c:D×Nat->Bool:=λx=>eJ ab aa x.1 && (fw ab aa x.2 x.1 day).isEmpty;let f:D×Nat->Nat×List Bs:=λx=>(x.2,kL ab aa x);have hS:jd ab aa day=((cI (ak ab aa)).filter q1).foldl (λS x=>if c x=true then eU S (f x)else S) []:=by
  rw[uj,List.filter_filter];unfold jd iB lU;congr 2;congr 1;funext x;show(decide (kindOf x.1∈bx) && ((eJ ab aa x.1 && decide (a9 x.1<=day)) && (fw ab aa x.2 x.1 day).isEmpty))=((eJ ab aa x.1 && (fw ab aa x.2 x.1 day).isEmpty) && (decide (kindOf x.1∈bx) && decide (a9 x.1<=day)));cases decide (kindOf x.1∈bx)<;>cases eJ ab aa x.1<;>cases decide (a9 x.1<=day)<;>cases (fw ab aa x.2 x.1 day).isEmpty<;>rfl
 have YR:((cI (ak ab aa)).filter q1).length<=60:=vR (vM _ _) ho;generalize (cI (ak ab aa)).filter q1=O at GX lg hS YR;let G:List Nat->Option (D×Bool)->Option (D×Bool)->DL.Env:=λS w4 w8=>[sF (.tup ab),sF (.int aa),sF (.int day),sF (.lst (((ak ab aa).filter q1).map tD)),w4,v5,v6,some (.lst (S.map λ(n:Nat)=>.int (n:Int)),true),w8];let fold:KL->List Nat:=λl=>l.foldl (λS x=>if c x=true then eU S (f x)else S) [];obtain⟨ρ2,e2,w4,w8,rfl,AI⟩:=gD (tg:=K2 [8,4]) (g:=yD) (λj ρ=>∃w4 w8,ρ=G (fold (O.take j)) w4 w8/\(fold (O.take j)).length<=j) (O.map tD) (G [] v4 none) ⟨v4,none,rfl,vT _⟩ (by
  rintro j d ρ hd ⟨w4,w8,rfl,hj⟩;rw[vA]at hd;obtain⟨x,hx,rfl⟩:=oY hd;have Yu:j<O.length:=(vV hx).1;obtain⟨NH,hk⟩:=lg x (vL hx);have hr:=b7 NH;have DX:bc x.1<=aa:=of_decide_eq_true (vN NH).2;have et:fold (O.take (j+1))=if c x=true then eU (fold (O.take j)) (f x)else fold (O.take j):=by
   show List.foldl _ _ (O.take (j+1))=_;rw[List.take_add_one,hx];show List.foldl _ _ (O.take j++[x])=_;rw[List.foldl_append];rfl
  generalize fold (O.take j)=S at et hj;let F:DL.Env:=G S (sF (.int x.2)) (sF (.int (a9 x.1)));have t1:bw (fA dR (fV 0 (fV 1 (fV 4 ai)))) F=some (eJ ab aa x.1):=de (aJ [.tup ab,.int aa,.int x.2] rfl (mQ ab (λr hr=>(g r hr).c.rp) (by omega) aa hr));have t2:bw (f2 dG (fA p5 (fV 0 (fV 1 (fV 4 (fV 2 ai))))) (fA bH ai)) F=some (fw ab aa x.2 x.1 day).isEmpty:=by
   refine de (iY (x:=.lst ((fw ab aa x.2 x.1 day).map λn:Nat=>.int n)) (y:=.lst []) (b1:=true) (b2:=true) (aJ [.tup ab,.int aa,.int x.2,.int day] rfl (Gw g (by omega) aa hn ho hr day)) (aJ [] rfl (gk _ (by simp))) ?_);cases fw ab aa x.2 x.1 day with
   |nil=>exact bi rfl
   |cons a l=>
    unfold dG;rw[if_pos ⟨by
     simp only[aq,List.all_eq_true];intro d hd;obtain⟨n,_,rfl⟩:=vO hd;simp,by simp[aq]⟩]
    simp
  have tt:=dF t1 λ_=>t2;have YS:kX [.tup ab,.int aa,.int x.2]=some (.lst ((kL ab aa x).map (Ch (Gx x.1))),true):=aw rfl (az (aJ [.tup ab,.int aa,.lst ((bj (ak ab aa)).map aR),.int x.2] (cj rfl (cj rfl (aF (aJ [.tup ab,.int aa] rfl ec) (cj rfl rfl)))) (Cj g hl aa hn _ rS hr hk DX)));have hc:=mF (fi:=cq (fA kX (fV 0 (fV 1 (fV 4 ai))))) (nT:=1) (cap:=[7]) (tg:=dA 0) (fe:=Hd (f2 dG (dI 0 0) (fS ("office" : Str))) (f2 xE (f2 bM (aj 0) (f1 pF (fI 1))) (aj 1))) (ρ:=F) (kL ab aa x) (Ch (Gx x.1)) (λb=>.bl (gO S b))
   (by
    show(fA kX _ _).bind _=_;rw[aJ [.tup ab,.int aa,.int x.2] rfl YS];rfl) (by have:=ze hl aa x;omega) λb _=>by
    refine⟨[some (Ch (Gx x.1) b,false),sF (.lst (S.map λ(n:Nat)=>.int (n:Int)))],rfl,false,?_⟩;unfold gO;rcases b with⟨_|o,n⟩
    ·refine mE (p:=false) (b1:=false) (bD (.str (Gx x.1)) (.str "office") rfl rfl (by simp[of_decide_eq_false (G5 x.1)])) λ_=>bD (.int n) (.lst (S.map λ(n:Nat)=>.int (n:Int))) rfl rfl ?_;have z7:(S.map λ(n:Nat)=>D.int (n:Int)).all g7=true:=by
      rw[List.all_eq_true];intro d hd;obtain⟨m,_,rfl⟩:=vO hd;rfl
     simp only[xE,gN,vJ];rw[if_pos ⟨rfl,z7⟩,G4]
    ·exact mE (p:=true) (q:=S.any λm=>decide ((m:Int)=n)) (b1:=false) (bD (.str "office") (.str "office") rfl rfl (by simp)) λh=>by cases h
  have t3:bw (fA zZ (af (bS (cq (fA kX (fV 0 (fV 1 (fV 4 ai))))) 1 [7] (dA 0) gz (Hd (f2 dG (dI 0 0) (fS ("office" : Str))) (f2 xE (f2 bM (aj 0) (f1 pF (fI 1))) (aj 1)))) ai)) F=some ((kL ab aa x).any (gO S)):=de (aJ [.lst ((kL ab aa x).map λb=>.bl (gO S b))] (aF hc rfl) (any_map _ _));refine⟨F,G (if c x=true then eU S (f x)else S) (sF (.int x.2)) (sF (.int (a9 x.1))),rfl,.inl (FN tt (λh=>?_) λh=>?_),_,_,by rw[et],?_⟩
  ·rw[if_pos (show c x=true from h)];refine FN t3 (λh3=>?_) λh3=>?_
   ·unfold eU;rw[if_pos (show(f x).2.any (gO S)=true from h3)];refine(gK (ds:=S.map λ(n:Nat)=>.int (n:Int)) (d:=.int x.2) (b:=false) rfl rfl rfl (bA (by rw[vI];omega))).trans ?_;simp[F,G,f]
   ·unfold eU;rw[if_neg (show ¬(f x).2.any (gO S)=true by show ¬(kL ab aa x).any (gO S)=true;rw[h3];decide)];rfl
  ·rw[if_neg (show ¬c x=true by show ¬(eJ ab aa x.1 && (fw ab aa x.2 x.1 day).isEmpty)=true;rw[h];decide)];rfl
  ·rw[et];split
   ·unfold eU;split
    ·rw[uZ,vE,List.length_nil];omega
    ·omega
   ·omega)
 rw[vI,List.take_length]at e2 AI;have DJ:fold O=jd ab aa day:=hS.symm;rw[DJ]at e2;refine aw rfl (cx (ds:=[]) (aJ [] rfl (gk _ (by simp))) rfl (dm (k7 (gZ (j:=ab.length) (b:=false) (by simp) (by omega)) e1) (cx (ds:=[]) (aJ [] rfl (gk _ (by simp))) rfl (dm (ρ':=G (jd ab aa day) w4 w8) ?_ (az (aJ [.lst ((jd ab aa day).map λ(n:Nat)=>.int (n:Int))] rfl (D7 _ (nZ hl aa day))))))));show M5 [3] _ _=_;refine(jD (ρ:=G [] v4 none) (ds:=O.map tD) ?_ e2);show(fA eX _ _).bind _=_;rw[aJ [.lst (((ak ab aa).filter q1).map tD)] rfl GX];rfl
end
theorem G6 (h:aq 40 d=true):CK d d=sF (.bl false):=by
 unfold CK;rw[if_pos ⟨h,h⟩,mN 40 _ h];rfl
theorem ul (S:List Nat):bz (eF S)=true:=bY λd hd=>by obtain⟨n,_,rfl⟩:=vO hd;rfl
theorem AE (S:List Nat):aq 40 (.lst (eF S))=true:=by
 simp only[aq,List.all_eq_true];intro d hd;obtain⟨n,_,rfl⟩:=vO hd;simp
theorem zg (S:List Nat):(eF S).length=S.length:=by unfold eF ko;rw[vI,(b9 _ _).length_eq,vI]
theorem Jw (hL:S.length<=100)(ec:jH [.tup ab,.int aa,.int day]=some (.lst (eF S),true))(v0 v1 v2 v3 v6 v9 rY:Option (D×Bool)):
  ∃GW,Ax [v0,v1,v2,v3,sF (.int aa),sF (.tup ab),v6,sF (.int day),some (.lst (eF S),true),v9,rY]=some (.nx [v0,v1,v2,v3,sF (.int aa),sF (.tup ab),v6,sF (.int day),some (.lst (eF S),true),v9,GW]):=by
 let E:DL.Env:=[v0,v1,v2,v3,sF (.int aa),sF (.tup ab),v6,sF (.int day),some (.lst (eF S),true),v9,some (.lst (eF S),true)];have t1:bw (fA c9 (fV 10 (af (fC (.ty "list")) ai))) E=some true:=de (aJ [.lst (eF S),.ty "list"] rfl (bi rfl));have t2:bw (f2 CK (aj 10) (aj 8)) E=some false:=de (bD (.lst (eF S)) (.lst (eF S)) rfl rfl (G6 (AE S)));have lf:=mF (fi:=cq (aj 10)) (nT:=1) (cap:=[]) (tg:=dA 0) (fe:=j5 (fA c9 (fV 0 (af (fC (.ty "int")) ai))) (zQ (fA c9 (fV 0 (af (fC (.ty "bool")) ai))))) (ρ:=E) (ko (S.map λ(n:Nat)=>(n:Int))) D.int (λ_=>.bl true) rfl (by have:=zg S;unfold eF at this;rw[vI]at this;omega) λn _=>⟨[sF (.int n)],rfl,false,dB (p:=true) (q:=true) (b1:=false) (aJ [.int n,.ty "int"] rfl rfl) λ_=>IV (p:=false) (b1:=false) (aJ [.int n,.ty "bool"] rfl rfl)⟩;have t3:bw (fA My (af (bS (cq (aj 10)) 1 [] (dA 0) gz (j5 (fA c9 (fV 0 (af (fC (.ty "int")) ai))) (zQ (fA c9 (fV 0 (af (fC (.ty "bool")) ai)))))) ai)) E=some true:=by
  refine de (aJ [.lst ((ko (S.map λ(n:Nat)=>(n:Int))).map λ_=>.bl true)] (aF lf rfl) ?_);show(pL _).map _=_;rw[qy (λ_=>true),Option.map_some];congr 3;rw[List.all_eq_true];intro b hb;obtain⟨_,_,rfl⟩:=vO hb;rfl
 exact⟨some (.lst (eF S++[.int 0]),true),cx (ds:=eF S) (aJ [.tup ab,.int aa,.int day] rfl ec) (ul S) (aC (cY (p:=false) (q:=false) (cn t1) λ_=>t2) (aC (cn t3) (gK (ds:=eF S) (d:=.int 0) (b:=false) rfl rfl rfl (bA (by rw[zg];omega)))))⟩
theorem G7 (ab:List D)(aa:Int):bT (ak ab aa)=ab.filter λv=>bd v && decide (bc v<=aa):=by
 unfold bT ak;rw[List.filter_filter];have:∀(l:List (D×Nat))(q:D->Bool),(l.filter λx=>q x.1).map (·.1)=(l.map (·.1)).filter q:=λl q=>by rw[List.filter_map];rfl
 refine(this ab.zipIdx λv=>bd v && decide (bc v<=aa)).trans ?_;rw[List.zipIdx_map_fst]
theorem G8 (ab:List D)(aa:Int):((bT (ak ab aa)).map (a7 0)).Sublist (ly ab):=by
 rw[G7];unfold ly;refine List.Sublist.map _ ?_;have:(ab.filter λv=>bd v && decide (bc v<=aa))=(ab.filter bd).filter λv=>decide (bc v<=aa):=by rw[List.filter_filter];congr 1;funext v;rw[Bool.and_comm]
 rw[this];exact List.filter_sublist
theorem law_true (ns:List Int)(_:ns.length<=63):∃b,F_law [.lst (ns.map .int)]=some (.bl true,b):=by
 obtain⟨c0,e0,h0⟩:=gw ns 0;obtain⟨c3,e3,h3⟩:=gw ns 3;obtain⟨c4,e4,h4⟩:=gw ns 4;obtain⟨O6,YT,ZC⟩:=gw ns 90;obtain⟨NK,YU,ZD⟩:=gw ns 91;obtain⟨zs,ez,hz,YV⟩:=Gj c0 h0;have Wq:=mod_lt (x:=c3) (m:=3) (by decide);obtain⟨ms,ZE,YW⟩:=oG (ns:=[1,1,500]) (i:=c3 % 3) Wq.1 Wq.2;obtain⟨ab,erw,Sc,Rj,NG⟩:=Jk ns zs hz ms;have YX:=mod_lt (x:=c3 / 3) (m:=13) (by decide);have ZF:=mod_lt (x:=c4) (m:=3) (by decide);have YY:=mod_lt (x:=O6) (m:=13) (by decide);have YZ:=mod_lt (x:=NK) (m:=13) (by decide);obtain⟨aa,DX,Za⟩:=oG (ns:=[9999,c3 / 3 % 13*ms]) (i:=c4 % 3 / 2) (by omega) (by simp;omega);have Ln:bv (.tup ab)=true:=by simp[bY λd hd=>(Sc d hd).flat]
 have hn:((bT (ak ab aa)).map (a7 0)).Nodup:=by
  refine List.Nodup.sublist (G8 ab aa) ?_;rw[NG];refine List.Nodup.sublist (List.take_sublist _ _) ?_;obtain⟨x,hx⟩:∃x,zs[5]? = some x:=⟨_,vU (by omega)⟩;obtain⟨y,hy⟩:∃y,zs[6]? = some y:=⟨_,vU (by omega)⟩;have e:zs.drop 5=[x,y]:=by
   refine List.ext_getElem? λj=>?_;rw[List.getElem?_drop];match j with
   |0=>exact hx
   |1=>exact hy
   |j+2=>rw[List.getElem?_eq_none (by omega)];rfl
  rw[e];simp[YV x y hx hy]
 have ho:(cI (ak ab aa)).length<=60:=by
  unfold cI;rw[(b9 _ _).length_eq];exact vR (vM _ _) (vR (cu ab aa) (by omega))
 let days:List Int:=[O6 % 13*ms,NK % 13*ms+ms / 2,9999];let E:Bool->Option (D×Bool)->Option (D×Bool)->Option (D×Bool)->Option (D×Bool)->DL.Env:=λb v7 v8 v9 rY=>[sF (.lst (ns.map .int)),some (.lst (zs.map .str),true),sF (.int ms),sF (.tup ab),sF (.int aa),sF (.tup ab),some (.lst (days.map .int),b),v7,v8,v9,rY];obtain⟨ρ',el,v7,v8,v9,rY,rfl⟩:=gD (tg:=dA 7) (g:=FQ) (λ_ ρ=>∃v7 v8 v9 rY,ρ=E false v7 v8 v9 rY) (days.map .int) (E false none none none none) ⟨none,none,none,none,rfl⟩ (by
  rintro i d ρ hd ⟨v7,v8,v9,rY,rfl⟩;rw[vA]at hd;obtain⟨day,_,rfl⟩:=oY hd;have ed:=Nh Sc (by omega) aa hn ho day;have es:=zf Sc (by omega) aa hn ho day;have hS:=nZ (ab:=ab) (by omega) aa day;generalize jd ab aa day=S at ed es hS;obtain⟨ρ2,e2,w9,GW,rfl⟩:=ky (tg:=dA 9) (g:=Ax) 2 (λ_ ρ=>∃w9 GW,ρ=E false (sF (.int day)) (some (.lst (eF S),true)) w9 GW) (E false (sF (.int day)) (some (.lst (eF S),true)) v9 rY) ⟨v9,rY,rfl⟩ (by
   rintro t ρ ht ⟨w9,GW,rfl⟩;obtain⟨Zb,e⟩:=Jw (S:=S) (by omega) es (sF (.lst (ns.map .int))) (some (.lst (zs.map .str),true)) (sF (.int ms)) (sF (.tup ab)) (sF (.lst (days.map .int))) (sF (.int t)) GW;exact⟨_,_,rfl,.inl e,_,Zb,rfl⟩)
  exact⟨_,_,rfl,.inl (cx (ds:=eF S) (aJ [.tup ab,.int aa,.int day] rfl ed) (ul S) (k7 (gZ (j:=2) (b:=false) rfl (by decide)) e2)),_,_,w9,GW,rfl⟩)
 refine⟨false,aw rfl (cx (ds:=zs.map .str) (aJ [.int c0] (aF (aJ [.lst (ns.map .int),.int ((0:Nat):Int)] rfl e0) rfl) ez) (dY zs) (gd (.int ms) ?_ rfl (gd (.tup ab) (aJ [.lst (ns.map .int),.lst (zs.map .str),.int ms,.int 18] rfl erw) Ln (gd (.int aa) ?_ rfl (gd (.tup ab) (aJ [.lst ab] (aF (b:=true) (aJ [.tup ab] rfl rfl) rfl) rfl) Ln (cx (ds:=days.map .int) ?_ (by simp) (dm (ρ':=E false v7 v8 v9 rY) ?_ (az (bD (.tup ab) (.tup ab) rfl rfl (IX λr hr=>(Sc r hr).c.rp))))))))))⟩
 ·exact iY (x:=.lst (([1,1,500]:List Int).map .int)) (y:=.int (c3 % 3)) (b1:=true) (b2:=false) (by simp[sizeLine]) (bD (.int c3) (.int 3) (aJ [.lst (ns.map .int),.int ((3:Nat):Int)] rfl e3) rfl (by simp)) YW
 ·exact iY (x:=.lst (([9999,c3 / 3 % 13*ms]:List Int).map .int)) (y:=.int (c4 % 3 / 2)) (b1:=true) (b2:=false) (aJ [.int 9999,.int (c3 / 3 % 13*ms)] (cj rfl (cj (bD (.int (c3 / 3 % 13)) (.int ms) (bD (.int (c3 / 3)) (.int 13) (bD (.int c3) (.int 3) (aJ [.lst (ns.map .int),.int ((3:Nat):Int)] rfl e3) rfl (by simp)) rfl (by simp)) rfl (lS (by omega))) rfl)) (gk _ (by simp))) (bD (.int (c4 % 3)) (.int 2) (bD (.int c4) (.int 3) (aJ [.lst (ns.map .int),.int ((4:Nat):Int)] rfl e4) rfl (by simp)) rfl (by simp)) Za
 ·have Zc:∀ρ:DL.Env,ρ[0]? = some (sF (.lst (ns.map .int)))->ρ[2]? = some (sF (.int ms))->f2 fJ (f2 bI (fA cD (fV 0 (af (fI 90) ai))) (fI 13)) (aj 2) ρ=sF (.int (O6 % 13*ms)):=λρ p0 p2=>bD (.int (O6 % 13)) (.int ms) (bD (.int O6) (.int 13) (aJ [.lst (ns.map .int),.int ((90:Nat):Int)] (by simp[p0]) YT) rfl (by simp)) (by simp[p2]) (lS (by omega));have Zd:∀ρ:DL.Env,ρ[0]? = some (sF (.lst (ns.map .int)))->ρ[2]? = some (sF (.int ms))->f2 fJ (f2 bI (fA cD (fV 0 (af (fI 91) ai))) (fI 13)) (aj 2) ρ=sF (.int (NK % 13*ms)):=λρ p0 p2=>bD (.int (NK % 13)) (.int ms) (bD (.int NK) (.int 13) (aJ [.lst (ns.map .int),.int ((91:Nat):Int)] (by simp[p0]) YU) rfl (by simp)) (by simp[p2]) (lS (by omega));exact aJ [.int (O6 % 13*ms),.int (NK % 13*ms+ms / 2),.int 9999] (aF (Zc _ rfl rfl) (cj (bD (.int (NK % 13*ms)) (.int (ms / 2)) (Zd _ rfl rfl) (by simp) rfl) (cj rfl rfl))) (gk _ (by simp))
 ·show M5 [6] _ _=_;exact jD (ρ:=E false none none none none) (ds:=days.map .int) rfl el
end Lw
namespace Lw
open PySem PySem.Spec PyProof.Rows L2 DL
noncomputable def fD (i:Nat):Stmt:=PySem.Challenge.pw_sealchain_k28_what_stands.main.body.getD i (.Pass ⟨0,0,0,0⟩)
structure Tx (w:World)(K:PySem.W.Frag)(mg:Str->Option Value):Prop where
 hX:∃h,K.In h/\h.Ns mainGlobals mg
 d0:dH K "word_of" (fD 7)
 d1:dH K "part_of" (fD 8)
 d2:dH K "day_of" (fD 9)
 d3:dH K "heard" (fD 11)
 d4:dH K "rank" (fD 13)
 d5:dH K "in_order" (fD 15)
 d6:dH K "by_office" (fD 27)
 d7:dH K "roots" (fD 16)
 d8:dH K "is_known" (fD 12)
 d9:dH K "tells" (fD 19)
 d10:dH K "told_of" (fD 20)
 d11:dH K "lives" (fD 21)
 d12:dH K "has_seal" (fD 22)
 d13:dH K "is_sound" (fD 23)
 d14:dH K "lies_in" (fD 1)
 d15:dH K "is_alive" (fD 25)
 d16:dH K "by_since" (fD 26)
 d17:dH K "chief_of" (fD 28)
 d18:dH K "holder_by" (fD 29)
 d19:dH K "is_held_by" (fD 30)
 d20:dH K "is_first_death" (fD 31)
 d21:dH K "counts" (fD 32)
 d22:dH K "new_claim" (fD 33)
 d23:dH K "ended" (fD 34)
 d24:dH K "after_choice" (fD 35)
 d25:dH K "inherited" (fD 36)
 d26:dH K "after_death" (fD 37)
 d27:dH K "claims" (fD 38)
 d28:dH K "is_paper" (fD 41)
 d29:dH K "is_leave" (fD 42)
 d30:dH K "is_borne" (fD 43)
 d31:dH K "covers" (fD 4)
 d32:dH K "reach_bar" (fD 48)
 d33:dH K "office_bar" (fD 49)
 d34:dH K "office_bases" (fD 52)
 d35:dH K "ends_within" (fD 3)
 d36:dH K "is_within" (fD 2)
 d37:dH K "is_ahead" (fD 14)
 d38:dH K "leave_bar" (fD 50)
 d39:dH K "leaves_to" (fD 51)
 d40:dH K "leave_bases" (fD 53)
 d41:dH K "copy_bases" (fD 54)
 d42:dH K "bases_by" (fD 55)
 d43:dH K "may_call" (fD 44)
 d44:dH K "calls_in" (fD 45)
 d45:dH K "calls_by" (fD 46)
 d46:dH K "is_fit" (fD 57)
 d47:dH K "links" (fD 58)
 d48:dH K "bears" (fD 59)
 d49:dH K "stood" (fD 60)
 d50:dH K "standing" (fD 61)
 d51:dH K "_law_cell" (fD 63)
 d52:dH K "_law_names" (fD 64)
 d53:dH K "_law_stretch" (fD 65)
 d54:dH K "_law_deed" (fD 66)
 d55:dH K "_law_rows" (fD 67)
 d56:dH K "calls" (fD 47)
 d57:dH K "bases" (fD 56)
 d58:dH K "_law_due" (fD 68)
 d59:dH K "law" (fD 69)
 n0:mg "all" = none
 n1:mg "any" = none
 n2:mg "bool" = none
 n3:mg "dict" = none
 n4:mg "enumerate" = none
 n5:mg "int" = none
 n6:mg "isinstance" = none
 n7:mg "len" = none
 n8:mg "list" = none
 n9:mg "max" = none
 n10:mg "min" = none
 n11:mg "range" = none
 n12:mg "set" = none
 n13:mg "sorted" = none
 n14:mg "tuple" = none
 k0:KC K mg "PAPERS" yy
 k1:KD w K mg "PARTS" gR
 k2:KC K mg "SEALINGS" ig
 l5:An K "in_order"
 l12:An K "has_seal"
 l20:An K "is_first_death"
 l42:An K "bases_by"
section
variable {P:Program}{w:World}{K:PySem.W.Frag}{mg:Str->Option Value}{base:Heap}(T:Tx w K mg)
include T
theorem f0:Fn P w K mg base 1 "word_of" aK:=T.d0.fq T.hX tO ["row"] 1 λnd hr hu=>
  (bg (aS (bK 0) av))
theorem f1:Fn P w K mg base 2 "part_of" au:=T.d1.fq T.hX tP ["row","part"] 2 λnd hr hu=>
  (bg (aS (bK 0) (ay bu av (IC T.k1 (a8 (f0 T) hr) (ag 1)))))
theorem f2:Fn P w K mg base 3 "day_of" aO:=T.d2.fq T.hX yz ["row"] 1 λnd hr hu=>
  (ao (cB (aM (cP hu) (a8 (f0 T) hr) aB) eI)
   (bg (a8 (f1 T) hr)))
theorem f3:Fn P w K mg base 1 "heard" cF:=T.d3.fq T.hX BC ["book","known"] 2 λnd hr hu=>
  (bg (iL ["number","row","known"] (Ix T.n4 (ag 0)) (fU (aM mq (bK 1) (ag 2))) (ag 0)))
theorem f4:Fn P w K mg base 4 "rank" ft:=T.d4.fq T.hX FP ["book","number"] 2 λnd hr hu=>
  (bg (aT (ah (bf (f2 T) hr (ah (aS (ag 0) (ag 1)) am)) (aH 1 am))))
theorem f5:Fn P w K mg base 8 "in_order" dQ:=T.d5.fqL T.hX qz ["book","known","dated"] 2 λnd hr hu jz=>
  (ao (oz ["number","book"] nd (c6 (a8 (f3 T) hr)) (fU (aM uL (bf (f2 T) hr (ah (aS (ag 1) (ag 0)) am)) eI)) (ag 0))
   (bg (Fu Fs T.n13 (ag 2) (vy (cap:=[0]) (N':=["number","book"]) (by decide +kernel) T.l5 jz rfl rfl (Bu (by decide +kernel) rfl rfl rfl rfl rfl) rfl (.cons rfl rfl (Or.inl rfl) rfl (ph (by decide +kernel) rfl) (.nil rfl)) rfl hr.in1.in1 (λ_ _ _ _=>rfl) λ_ _ _ _ hr=>have hu:=CL hr;(a8 (f4 T) hr)))))
theorem f6:Fn P w K mg base 1 "by_office" gE:=T.d6.fq T.hX o0 ["claim"] 1 λnd hr hu=>
  (bg (aT (ah (bK 0) (ah (bK 0) (ah (bK 0) am)))))
theorem f7:Fn P w K mg base 3 "roots" gu:=T.d7.fq T.hX BD ["book","known","known_rows"] 2 λnd hr hu=>
  (ao (oz ["number","book"] nd (c6 (a8 (f3 T) hr)) j4 (aS (ag 1) (ag 0)))
   (bg (gW (MH rfl) T.n3 MG (ah (iL ["row"] (c6 (ag 2)) (fU (aM (cP hu) (a8 (f0 T) hr) aB)) (aT (ah (a8 (f1 T) hr) (aH 0 am)))) am))))
theorem f8:Fn P w K mg base 1 "is_known" cC:=T.d8.fq T.hX q8 ["book","known","number"] 3 λnd hr hu=>
  (bg (gJ (E8 mq EF av (ag 2) (b8 jP T.n7 jQ (aH 0 am))) (eZ (cz mq (aS (aS (ag 0) (ag 2)) av) (ag 1)))))
theorem f9:Fn P w K mg base 4 "tells" pz:=T.d9.fq T.hX BE ["row","words","person","day"] 4 λnd hr hu=>
  (bg (gJ (cz sS (a8 (f0 T) hr) (ag 1)) (gJ (cz (cP hu) (a8 (f1 T) hr) (ag 2)) (eZ (cz mq (a8 (f2 T) hr) (ag 3))))))
theorem f10:Fn P w K mg base 5 "told_of" hU:=T.d10.fq T.hX tQ ["book","known","words","person","day"] 5 λnd hr hu=>
  (bg (iL ["number","words","person","day","book"] (c6 (a8 (f3 T) hr)) (fU (bW (bf (f9 T) hr (ah (aS (ag 4) (ag 0)) (aH 1 (aH 2 (aH 3 am))))))) (ag 0)))
theorem f11:Fn P w K mg base 6 "lives" mG:=T.d11.fq T.hX BF ["book","known","person","day"] 4 λnd hr hu=>
  (bg (cz (cP hu) (b8 jP T.n7 jQ (ah (bf (f10 T) hr (aH 0 (aH 1 (ah (aT (ah aB am)) (aH 2 (aH 3 am)))))) am)) av))
theorem WE:Fn P w K mg base 8 "has_seal" lL:=T.d12.fqL T.hX qA ["book","known","person","day","told"] 4 λnd hr hu jz=>
  (ao (aG nd (bf (f10 T) hr (aH 0 (aH 1 (ah (aT (ah aB (ah aB am))) (aH 2 (aH 3 am)))))))
   (ao (cB (aM (cP hu) (b8 jP T.n7 jQ (aH 4 am)) av) ji)
   (bg (cz (cP hu) (bf (f0 T) hr (ah (aS (ag 0) (yp UN T.n9 (ag 4) (vy (cap:=[0]) (N':=["number","book"]) (by decide +kernel) T.l12 jz rfl rfl (Bu (by decide +kernel) rfl rfl rfl rfl rfl) rfl (.cons rfl rfl (Or.inl rfl) rfl (ph (by decide +kernel) rfl) (.nil rfl)) rfl hr.in1 (λ_ _ _ _=>rfl) λ_ _ _ _ hr=>have hu:=CL hr;(a8 (f4 T) hr)) hr)) am)) aB))))
theorem R7:Fn P w K mg base 9 "is_sound" dR:=T.d13.fq T.hX qB ["book","known","number","sealer","day"] 3 λnd hr hu=>
  (ao (cB (ki (ln (fW (bW (a8 (f8 T) hr))) (kh (aM pH (bf (f0 T) hr (ah (aS (ag 0) (ag 2)) am)) (xD T.k2))))) ji)
   (ao (aG nd (bf (f1 T) hr (ah (aS (ag 0) (ag 2)) (ah aB am))))
   (ao (aG nd (bf (f2 T) hr (ah (aS (ag 0) (ag 2)) am)))
   (bg (gJ (a8 (f11 T) hr) (eZ (a8 (WE T) hr)))))))
theorem UV:Fn P w K mg base 1 "lies_in" jq:=T.d14.fq T.hX tR ["day","stretch"] 2 λnd hr hu=>
  (bg (gJ (cz mq (bK 1) (ag 0)) (eZ (AU (cz EH (bK 1) eI) (eZ (cz EF (ag 0) (bK 1)))))))
theorem SV:Fn P w K mg base 2 "is_alive" cR:=T.d15.fq T.hX qC ["claim","day"] 2 λnd hr hu=>
  (bg (bf (UV T) hr (aH 1 (ah (aT (ah (bK 0) (ah (bK 0) am))) am))))
theorem SW:Fn P w K mg base 1 "by_since" dr:=T.d16.fq T.hX qD ["claim"] 1 λnd hr hu=>
  (bg (aT (ah (bK 0) (ah (bK 0) am))))
theorem WG:Fn P w K mg base 5 "chief_of" lM:=T.d17.fq T.hX qE ["alive","rule"] 2 λnd hr hu=>
  (ao (cB (aM (cP hu) (ag 1) aB) (aS (yp UN T.n9 (ag 0) (Bv (SW T) (hr.in1.mono (by decide)) rfl) hr) av))
   (bg (aS (yp SI T.n10 (ag 0) (Bv (SW T) (hr.in1.mono (by decide)) rfl) hr) av)))
theorem UW:Fn P w K mg base 6 "holder_by" dS:=T.d18.fq T.hX o3 ["claimed","root","day","alive","people","person","oldest"] 3 λnd hr hu=>
  (ao (oz ["claim","day","root"] nd (c6 (ag 0)) (fU (ki (iU (aM (cP hu) (bK 0) (a8 (f1 T) hr)) (gQ (bW (a8 (SV T) hr)))))) (ag 0))
   (ao (aG nd (pT rfl T.n13 T.n12 (iL ["claim"] (c6 (ag 3)) j4 (bK 0))))
   (ao (cB (aM (cP hu) (b8 jP T.n7 jQ (aH 4 am)) av) (aT (ah aB am)))
   (ao (cB (ki (iU (aM EA (b8 jP T.n7 jQ (aH 4 am)) av) (gQ (aM (cP hu) (a8 (f1 T) hr) aB)))) (aT (ah aB (aH 4 am))))
   (ao (aG nd (bf (WG T) hr (aH 3 (ah (a8 (f1 T) hr) am))))
   (ao (aG nd (yp SI T.n10 (iL ["claim","person"] (c6 (ag 3)) (fU (aM (cP hu) (bK 0) (ag 1))) (ag 0)) (Bv (SW T) (hr.in1.mono (by decide)) rfl) hr))
   (bg (aT (ah aB (aH 5 (ah (bK 6) am)))))))))))
theorem SX:Fn P w K mg base 7 "is_held_by" cL:=T.d19.fq T.hX mH ["claimed","root","person","day"] 4 λnd hr hu=>
  (bg (cz (cP hu) (ET (a8 (UW T) hr) Ij (Ik av)) (aT (ah aB (aH 2 am)))))
theorem WH:Fn P w K mg base 8 "is_first_death" ge:=T.d20.fqL T.hX jr ["book","known","number","row","deaths"] 3 λnd hr hu jz=>
  (ao (aG nd (aS (ag 0) (ag 2)))
   (ao (aG nd (bf (f10 T) hr (aH 0 (aH 1 (ah (aT (ah aB am)) (ah (a8 (f1 T) hr) (ah (a8 (f2 T) hr) am)))))))
   (bg (cz (cP hu) (yp SI T.n10 (ag 4) (vy (cap:=[0]) (N':=["each","book"]) (by decide +kernel) T.l20 jz rfl rfl (Bu (by decide +kernel) rfl rfl rfl rfl rfl) rfl (.cons rfl rfl (Or.inl rfl) rfl (ph (by decide +kernel) rfl) (.nil rfl)) rfl hr.in1 (λ_ _ _ _=>rfl) λ_ _ _ _ hr=>have hu:=CL hr;(a8 (f4 T) hr)) hr) (ag 2)))))
theorem WI:Fn P w K mg base 10 "counts" mI:=T.d21.fq T.hX y0 ["book","known","so_far","number","row","root"] 4 λnd hr hu=>
  (ao (aG nd (aS (ag 0) (ag 3)))
   (ao (cB (aM (cP hu) (a8 (f0 T) hr) aB) (a8 (WH T) hr))
   (ao (cB (aM pH (a8 (f0 T) hr) (aT (ah aB (ah aB (ah aB am))))) ji)
   (ao (aG nd (F0 (Oa hu) (a8 (f7 T) hr) (a8 (f1 T) hr) ⟨rfl,rfl,rfl,rfl⟩))
   (ao (cB (aM EH (ag 5) eI) ji)
   (ao (cB (aM (cP hu) (a8 (f0 T) hr) aB) ji)
   (bg (gJ (a8 (R7 T) hr) (eZ (bf (SX T) hr (aH 2 (aH 5 (ah (a8 (f1 T) hr) (ah (a8 (f2 T) hr) am))))))))))))))
theorem UX:Fn P w K mg base 3 "new_claim" gF:=T.d22.fq T.hX o4 ["row","since","number"] 3 λnd hr hu=>
  (bg (aT (ah (a8 (f1 T) hr) (ah (a8 (f1 T) hr) (aH 1 (ah eI (aH 2 am)))))))
theorem UY:Fn P w K mg base 3 "ended" p4:=T.d23.fq T.hX BG ["so_far","offices","person","day","left","claim"] 4 λnd hr hu=>
  (ao (aG nd (bG am))
   (ao (qq (c6 (ag 0)) (z5 5 nd) eO (bq (eP (ki (ln (aM pH (bK 5) (ag 1)) (ln (aM (Ii hu) (bK 5) (ag 2)) (kh (fW (ki (ln (bW (a8 (SV T) hr)) (kh (aM EA (bK 5) (ag 3)))))))))) (bq (fX (i:=4) (ag 5))) (bq (eP (aM EF (bK 5) (ag 3)) (bq (fX (i:=4) (aT (ah (bK 5) (aH 2 (ah (bK 5) (aH 3 (ah (bK 5) am)))))))) dN)))))
   (bq (mo 4))))
theorem WJ:Fn P w K mg base 4 "after_choice" ij:=T.d24.fq T.hX k8 ["so_far","row","number","since","left"] 3 λnd hr hu=>
  (ao (aG nd (a8 (f1 T) hr))
   (ao (aG nd (bf (UY T) hr (aH 0 (ah (bG (ah (a8 (f1 T) hr) am)) (ah (a8 (f1 T) hr) (aH 3 am))))))
   (bg (ay bu (ag 4) (bG (ah (a8 (UX T) hr) am))))))
theorem WK:Fn P w K mg base 7 "inherited" k9:=T.d25.fq T.hX o5 ["book","known","so_far","heirs","number","person","day","told","office","heir"] 5 λnd hr hu=>
  (ao (aG nd (bf (f1 T) hr (ah (aS (ag 0) (ag 4)) (ah aB am))))
   (ao (aG nd (bf (f2 T) hr (ah (aS (ag 0) (ag 4)) am)))
   (ao (aG nd (bG am))
   (ao (EW [5,6] (qq (c6 (pT rfl T.n13 T.n12 (iL ["claim","person","day"] (c6 (ag 2)) (fU (ki (iU (aM (cP hu) (bK 0) (ag 1)) (gQ (bW (a8 (SV T) hr)))))) (bK 0)))) (z5 8 nd) eO (ao (aG nd (FC (Oa hu) (ag 3) (aH 8 (aH 5 am)) ⟨rfl,rfl,rfl,rfl⟩))
   (bq (eP (ki (iU (aM uL (ag 9) eI) (gQ (bW (a8 (f11 T) hr))))) (bq (fX (i:=7) (aT (aH 8 (aH 9 (aH 6 (ah eI (aH 4 am)))))))) dN)))))
   (bq (mo 7))))))
theorem WL:Fn P w K mg base 8 "after_death" iZ:=T.d26.fq T.hX lu ["book","known","so_far","heirs","number","offices","left"] 5 λnd hr hu=>
  (ao (oz ["claim"] nd (c6 (ag 2)) j4 (bK 0))
   (ao (aG nd (bf (UY T) hr (aH 2 (aH 5 (ah (bf (f1 T) hr (ah (aS (ag 0) (ag 4)) (ah aB am))) (ah (bf (f2 T) hr (ah (aS (ag 0) (ag 4)) am)) am))))))
   (bg (ay bu (ag 6) (a8 (WK T) hr)))))
theorem SY:Fn P w K mg base 11 "claims" kB:=T.d27.fq T.hX y4 ["book","known","so_far","heirs","number","row"] 2 λnd hr hu=>
  (ao (aG nd (bG am))
   (ao (IK (i:=3) nd)
   (ao (qq (c6 (a8 (f5 T) hr)) (z5 4 nd) eO (ao (aG nd (aS (ag 0) (ag 4)))
   (ao (eP (fW (bW (a8 (WI T) hr))) (bq Iu) dN)
   (bq (eP (aM (cP hu) (a8 (f0 T) hr) aB) (bq (aG nd (ay bu (ag 2) (bG (ah (bf (UX T) hr (aH 5 (ah (a8 (f2 T) hr) (aH 4 am)))) am))))) (bq (eP (aM (cP hu) (a8 (f0 T) hr) aB) (bq (aG nd (a8 (WJ T) hr))) (bq (eP (aM (cP hu) (a8 (f0 T) hr) aB) (bq (IM (i:=3) (Oa hu) (a8 (f1 T) hr) (ah (a8 (f1 T) hr) (ah (a8 (f1 T) hr) am)))) (bq (aG nd (a8 (WL T) hr))))))))))))
   (bg (Fu Fs T.n13 (ag 2) (Bv (f6 T) (hr.in1.in1.mono (by decide)) rfl))))))
theorem UZ:Fn P w K mg base 2 "is_paper" fu:=T.d28.fq T.hX qG ["book","known","number"] 3 λnd hr hu=>
  (bg (gJ (a8 (f8 T) hr) (eZ (cz sS (bf (f0 T) hr (ah (aS (ag 0) (ag 2)) am)) (xD T.k0)))))
theorem Va:Fn P w K mg base 2 "is_leave" gf:=T.d29.fq T.hX qH ["book","known","number"] 3 λnd hr hu=>
  (bg (gJ (a8 (f8 T) hr) (eZ (cz (cP hu) (bf (f0 T) hr (ah (aS (ag 0) (ag 2)) am)) aB))))
theorem Ta:Fn P w K mg base 3 "is_borne" dU:=T.d30.fq T.hX qI ["book","known","number"] 3 λnd hr hu=>
  (bg (AU (a8 (Va T) hr) (eZ (a8 (UZ T) hr))))
theorem Vb:Fn P w K mg base 1 "covers" im:=T.d31.fq T.hX qJ ["matters","some"] 2 λnd hr hu=>
  (bg (cz (cP hu) (ay Pt (ag 0) (ag 1)) (ag 1)))
theorem Vc:Fn P w K mg base 3 "reach_bar" iN:=T.d32.fq T.hX o6 ["row","above"] 2 λnd hr hu=>
  (ao (cB (fW (bW (bf (Vb T) hr (ah (a8 (f1 T) hr) (ah (a8 (f1 T) hr) am))))) aB)
   (ao (cB (ki (iU (aM (cP hu) (a8 (f0 T) hr) aB) (gQ (aM S5 (a8 (f1 T) hr) (a8 (f1 T) hr))))) aB)
   (bg eI)))
theorem WM:Fn P w K mg base 8 "office_bar" gT:=T.d33.fq T.hX mJ ["claimed","row","root"] 3 λnd hr hu=>
  (ao (cB (fW (bW (bf (SX T) hr (aH 0 (aH 2 (ah (a8 (f1 T) hr) (ah (a8 (f2 T) hr) am))))))) aB)
   (bg (a8 (Vc T) hr)))
theorem WN:Fn P w K mg base 9 "office_bases" io:=T.d34.fq T.hX kE ["book","known","claimed","number","row","bearing"] 4 λnd hr hu=>
  (ao (aG nd (aS (ag 0) (ag 3)))
   (ao (oz ["root","claimed","row"] nd (B4 (a8 (f7 T) hr)) (fU (aM EH (a8 (WM T) hr) eI)) (ag 0))
   (bg (iL ["root","claimed","row"] (c6 (ag 5)) j4 (aT (ah aB (ah (a8 (f1 T) hr) (ah (aS (bf (UW T) hr (aH 1 (aH 0 (ah (a8 (f2 T) hr) am)))) av) am))))))))
theorem WO:Fn P w K mg base 1 "ends_within" ja:=T.d35.fq T.hX lw ["stop","bound"] 2 λnd hr hu=>
  (ao (cB (aM EH (ag 1) eI) ji)
   (bg (gJ (cz uL (ag 0) eI) (eZ (cz mq (ag 0) (ag 1))))))
theorem WP:Fn P w K mg base 2 "is_within" iO:=T.d36.fq T.hX o7 ["one","other"] 2 λnd hr hu=>
  (bg (gJ (cz mq (bK 1) (bK 0)) (eZ (bf (WO T) hr (ah (bK 0) (ah (bK 1) am))))))
theorem Vd:Fn P w K mg base 5 "is_ahead" gg:=T.d37.fq T.hX qK ["book","one","other"] 3 λnd hr hu=>
  (bg (cz (PM hu) (a8 (f4 T) hr) (a8 (f4 T) hr)))
theorem WQ:Fn P w K mg base 6 "leave_bar" iP:=T.d38.fq T.hX o8 ["book","number","leave","row","stretch"] 3 λnd hr hu=>
  (ao (aG nd (aS (ag 0) (ag 1)))
   (ao (aG nd (bf (f1 T) hr (ah (aS (ag 0) (ag 2)) (ah aB am))))
   (ao (cB (fW (bW (a8 (Vd T) hr))) aB)
   (ao (cB (ki (ln (fW (bW (bf (UV T) hr (ah (a8 (f2 T) hr) (aH 4 am))))) (kh (fW (bW (bf (WP T) hr (ah (a8 (f1 T) hr) (aH 4 am)))))))) aB)
   (bg (bf (Vc T) hr (aH 3 (ah (aS (ag 0) (ag 2)) am))))))))
theorem WR:Fn P w K mg base 3 "leaves_to" kF:=T.d39.fq T.hX o9 ["book","known","person","leaves"] 3 λnd hr hu=>
  (ao (oz ["number","book","known"] nd (c6 (a8 (f3 T) hr)) (fU (bW (a8 (Va T) hr))) (ag 0))
   (bg (iL ["number","person","book"] (c6 (ag 3)) (fU (aM (cP hu) (bf (f1 T) hr (ah (aS (ag 2) (ag 0)) (ah aB am))) (ag 1))) (ag 0))))
theorem WS:Fn P w K mg base 7 "leave_bases" jb:=T.d40.fq T.hX lx ["book","known","number","leaves"] 3 λnd hr hu=>
  (ao (aG nd (bf (WR T) hr (aH 0 (aH 1 (ah (bf (f1 T) hr (ah (aS (ag 0) (ag 2)) (ah aB am))) am)))))
   (bg (iL ["leave","book","number"] (c6 (ag 3)) (fU (aM EH (a8 (WQ T) hr) eI)) (aT (ah aB (aH 0 am))))))
theorem WT:Fn P w K mg base 6 "copy_bases" jE:=T.d41.fq T.hX mK ["book","known","number","of"] 3 λnd hr hu=>
  (ao (aG nd (bf (f1 T) hr (ah (aS (ag 0) (ag 2)) (ah aB am))))
   (ao (cB (ki (iU (bW (a8 (UZ T) hr)) (gQ (bW (a8 (Vd T) hr))))) (bG (ah (aT (ah aB (aH 3 am))) am)))
   (bg (bG am))))
theorem Ve:Fn P w K mg base 10 "bases_by" dW:=T.d42.fqL T.hX qL ["book","known","claimed","number","found"] 4 λnd hr hu jz=>
  (ao (cB (fW (bW (a8 (Ta T) hr))) (bG am))
   (ao (cB (aM (cP hu) (bf (f0 T) hr (ah (aS (ag 0) (ag 3)) am)) aB) (a8 (WT T) hr))
   (ao (aG nd (ay bu (a8 (WN T) hr) (a8 (WS T) hr)))
   (bg (Fu (FI hu) T.n13 (ag 4) (vy (cap:=[]) (N':=["base"]) (by decide +kernel) T.l42 jz rfl rfl (Bu (by decide +kernel) rfl rfl rfl rfl rfl) rfl (.nil rfl) rfl hr.in1.in1 (λ_ _ _ _=>rfl) λ_ _ _ _ hr=>have hu:=CL hr;(aT (ah (aS (ag 0) (E5 EG av)) (aH 0 am)))))))))
theorem WU:Fn P w K mg base 8 "may_call" lN:=T.d43.fq T.hX qM ["book","known","claimed","call","number","row","caller","over"] 5 λnd hr hu=>
  (ao (aG nd (aS (ag 0) (ag 4)))
   (ao (aG nd (bf (f1 T) hr (ah (aS (ag 0) (ag 3)) (ah aB am))))
   (ao (cB (aM (cP hu) (ag 6) (a8 (f1 T) hr)) ji)
   (ao (cB (aM (cP hu) (a8 (f0 T) hr) aB) ji)
   (ao (oz ["root","row"] nd (B4 (a8 (f7 T) hr)) (fU (bW (bf (Vb T) hr (ah (a8 (f1 T) hr) (ah (a8 (f1 T) hr) am))))) (ag 0))
   (bg (b8 EO T.n1 EQ (ah (iL ["root","claimed","caller","book","call"] (c6 (ag 7)) j4 (bf (SX T) hr (aH 1 (aH 0 (aH 2 (ah (bf (f2 T) hr (ah (aS (ag 3) (ag 4)) am)) am)))))) am))))))))
theorem WV:Fn P w K mg base 10 "calls_in" jF:=T.d44.fq T.hX qN ["book","known","claimed","call","number","day","row"] 6 λnd hr hu=>
  (ao (aG nd (aS (ag 0) (ag 3)))
   (ao (cB (ki (ln (aM (Ii hu) (a8 (f0 T) hr) aB) (ln (aM (Ii hu) (a8 (f1 T) hr) (ag 4)) (kh (aM EA (a8 (f2 T) hr) (ag 5)))))) ji)
   (bg (gJ (a8 (R7 T) hr) (eZ (a8 (WU T) hr))))))
theorem Vf:Fn P w K mg base 11 "calls_by" jG:=T.d45.fq T.hX qO ["book","known","claimed","number","day"] 5 λnd hr hu=>
  (ao (cB (fW (bW (a8 (Ta T) hr))) (bG am))
   (bg (iL ["call","book","known","claimed","number","day"] (c6 (a8 (f3 T) hr)) (fU (bW (a8 (WV T) hr))) (ag 0))))
theorem WW:Fn P w K mg base 12 "is_fit" mL:=T.d46.fq T.hX y6 ["book","known","claimed","number","day"] 5 λnd hr hu=>
  (ao (cB (ki (ln (fW (bW (a8 (R7 T) hr))) (kh (aM EA (bf (f2 T) hr (ah (aS (ag 0) (ag 3)) am)) (ag 4))))) ji)
   (bg (cz (cP hu) (b8 jP T.n7 jQ (ah (a8 (Vf T) hr) am)) av)))
theorem WX:Fn P w K mg base 13 "links" wl:=T.d47.fq T.hX BH ["book","known","day","claimed","found","number"] 3 λnd hr hu=>
  (ao (Ie (i:=3) nd (a8 (SY T) hr))
   (ao (B3 (i:=4) nd)
   (ao (qq (c6 (a8 (f5 T) hr)) (z5 5 nd) eO (bq (eP (ki (iU (bW (a8 (Ta T) hr)) (gQ (bW (a8 (WW T) hr))))) (bq (FM (i:=4) (Oa hu) (a8 (Ve T) hr) (ag 5))) dN)))
   (bq (mo 4)))))
theorem WY:Fn P w K mg base 1 "bears" mM:=T.d48.fq T.hX BI ["base","among"] 2 λnd hr hu=>
  (bg (AU (cz (cP hu) (bK 0) aB) (eZ (MP (Oa hu) (bK 0) (ag 1)))))
theorem WZ:Fn P w K mg base 2 "stood" wm:=T.d49.fq T.hX BJ ["found","stands","number","resting"] 1 λnd hr hu=>
  (ao (B3 (i:=1) nd)
   (ao (qq (FL (ag 0)) (ut rfl (eM (z5 2 nd) (eM (z5 3 nd) lX))) K3 (bq (eP (bW (b8 EO T.n1 EQ (ah (iL ["base","stands"] (c6 (ag 3)) j4 (a8 (WY T) hr)) am))) (bq (IL (i:=1) (Oa hu) ji (ag 2))) dN)))
   (bq (mo 1))))
theorem Xa:Fn P w K mg base 14 "standing" jH:=T.d50.fq T.hX qP ["book","known","day"] 3 λnd hr hu=>
  (bg (b8 (Dr rfl) T.n13 mv (ah (bf (WZ T) hr (ah (a8 (WX T) hr) am)) am)))
theorem G9:Fn P w K mg base 1 "_law_cell" cD:=T.d51.fq T.hX y9 ["_law_script","_law_k","_law_cell_here"] 2 λnd hr hu=>
  (ao (aG nd av)
   (ao (eP (aM EA (b8 jP T.n7 jQ (aH 0 am)) av) (bq (aG nd (aS (ag 0) (ay bJ (ag 1) (b8 jP T.n7 jQ (aH 0 am)))))) dN)
   (ao (aG nd (ay bJ (ay cQ (ay bu (ay bu (ay bJ (ag 2) av) (ay cQ av (ag 1))) av) av) av))
   (bg (ay bJ (ay cQ (ag 2) (ay bu (ay bu (ay bJ (ag 2) av) (ag 1)) av)) av)))))
theorem Xb:Fn P w K mg base 1 "_law_names" nL:=T.d52.fq T.hX tS ["_law_cell_here","_law_letters","_law_base","_law_at","_law_names_here","_law_k","_law_name"] 1 λnd hr hu=>
  (ao (aG nd aB)
   (ao (oz ["_law_k","_law_letters","_law_cell_here"] nd (EL T.n11 (ay bu av (ay bJ (ag 0) av))) j4 (aS (ag 1) (ay bJ (ay bN (ag 2) (ay bu av (ay cQ av (ag 0)))) av)))
   (ao (aG nd (ay bJ (ay bN (ag 0) av) (b8 jP T.n7 jQ (aH 2 am))))
   (ao (aG nd (bG am))
   (ao (yt (jj T.n11 av) (z5 5 nd) eO (ao (aG nd (gW EX T.n8 zY (aH 2 am)))
   (ao (Fa (i:=6) (aS (ag 1) (ay bJ (ay bu (ay bN (ag 0) av) (ay cQ av (ag 5))) av)) (ag 3))
   (bq (fX (i:=4) (M0 PySem.F.slot_str_join PySem.F.type_str_join M3 EU aB (ag 6)))))))
   (ao (eP (aM (cP hu) (ay bJ (ay bN (ag 0) av) av) av) (bq (Fa (i:=4) (bK 4) av)) dN)
   (bq (mo 4))))))))
theorem Vg:Fn P w K mg base 1 "_law_stretch" gG:=T.d53.fq T.hX oA ["_law_cell_here","_law_day","_law_measure","_law_some"] 3 λnd hr hu=>
  (ao (aG nd (bG (ah (aT (bV (ah eI am))) (ah (aT (aH 1 (ah eI am))) (ah (aT (aH 1 (ah (ay bu (ag 1) (ay cQ av (ag 2))) am))) (ah (aT (bV (ah (ay bu (ag 1) (ay cQ av (ag 2))) am))) (ah (aT (bV (ah (ay cQ av (ag 2)) am))) am)))))))
   (ao (aG nd (ay bu (ag 3) (bG (ah (aT (ah (ay bu (ag 1) (ag 2)) (ah (ay bu (ag 1) (ay cQ av (ag 2))) am))) (ah (aT (ah (ay bN (ag 1) av) (ah (ay bu (ag 1) (ay cQ av (ag 2))) am))) (ah (aT (bV (ah eI am))) am))))))
   (bg (aS (ag 3) (ay bJ (ag 0) av)))))
theorem Xc:Fn P w K mg base 2 "_law_deed" qQ:=T.d54.fq T.hX yA ["_law_many","_law_cell_here","_law_other","_law_names_here","_law_day","_law_had","_law_measure","_law_kinds","_law_word","_law_by","_law_person","_law_of","_law_matters","_law_further","_law_start"] 7 λnd hr hu=>
  (ao (aG nd (ay bu (ay bu (F8 (bG (ah aB am)) av) (F8 (bG (ah aB am)) av)) (bG (ah aB (ah aB (ah aB (ah aB (ah aB am))))))))
   (ao (aG nd (ay bu (ag 7) (bG (ah aB (ah aB (ah aB (ah aB (ah aB (ah aB am)))))))))
   (ao (aG nd (aS (ag 7) (ay bJ (ag 1) av)))
   (ao (aG nd (aS (ag 5) (ay E9 (E5 EG av) (ay bJ (ay bN (ag 1) av) (b8 P6 T.n10 P2 (bV (ah (b8 jP T.n7 jQ (aH 5 am)) am)))))))
   (ao (eP (aM (cP hu) (ay bJ (ay bN (ag 1) av) av) av) (bq (aG nd (aS (ag 3) (ay bJ (ay bN (ag 1) av) av)))) dN)
   (ao (aG nd (aS (ag 3) (ay bJ (ay bN (ag 1) av) av)))
   (ao (aG nd (b8 P5 T.n9 P0 (bV (ah (ay E9 (ay E9 (ag 0) av) (ay bJ (ag 2) av)) am))))
   (ao (eP (aM (cP hu) (ay bJ (ay bN (ag 2) av) av) av) (bq (aG nd (ay bJ (ay bN (ag 2) av) av))) dN)
   (ao (eP (aM (cP hu) (ag 8) aB) (ao (aG nd (by refine aS (hs:=?_) ?_ ?_;refine bG ?_;refine bV ?_;refine bV ?_;refine bV ?_;refine bV ?_;refine bV ?_;refine bV ?_;refine bV ?_;refine bV ?_;exact am;exact(ay bJ (ay bN (ag 1) av) av);intro _ _;rfl))
   (ao (aG nd (ay bJ (ay bN (ag 2) av) (aS (bG (bV (bV (bV (bV am))))) (ay bJ (ay bN (ag 2) av) av))))
   (bg (aT (aH 8 (aH 4 (aH 9 (aH 10 (aH 12 (ah (bf (Vg T) hr (ah (ay bN (ag 2) av) (aH 4 (aH 6 am)))) (aH 13 am))))))))))) dN)
   (ao (eP (ki (ln (aM (cP hu) (ag 8) aB) (kh (aM (cP hu) (ag 8) aB)))) (ao (aG nd (by refine aS (hs:=?_) ?_ ?_;refine bG ?_;refine bV ?_;refine bV ?_;refine bV ?_;refine bV ?_;refine bV ?_;refine bV ?_;refine bV ?_;refine bV ?_;exact am;exact(ay bJ (ay bN (ag 1) av) av);intro _ _;rfl))
   (ao (aG nd (aT (aH 8 (aH 4 (aH 9 (aH 12 (ah (bf (Vg T) hr (ah (ay bN (ag 2) av) (aH 4 (aH 6 am)))) (ah (aS (bG (ah eI (aH 10 am))) (ay bJ (ay bN (ag 2) av) av)) am))))))))
   (ao (cB (aM (cP hu) (ag 8) aB) (ay Fy (ag 14) (aT (aH 11 (ah (aT (ah (aT (bV (aH 10 am))) am)) am)))))
   (bg (ay Fy (ag 14) (aT (ah (aT (aH 10 am)) am))))))) dN)
   (ao (cB (aM sS (ag 8) (aT (ah aB (ah aB am)))) (aT (aH 8 (aH 4 (aH 9 (aH 11 am))))))
   (ao (cB (aM (cP hu) (ag 8) aB) (aT (aH 8 (aH 4 (ah (aS (ag 3) (ay bu av (ay bJ (ag 2) av))) (aH 10 am))))))
   (ao (cB (aM (cP hu) (ag 8) aB) (aT (aH 8 (aH 4 (aH 9 (ah (aS (ag 3) (ay bu av (ay bJ (ag 2) av))) (aH 10 (ah (ay bu (ag 4) (ay cQ (ay bJ (ay bN (ag 2) av) av) (ag 6))) am))))))))
   (ao (cB (aM (cP hu) (ag 8) aB) (aT (aH 8 (aH 4 (aH 9 (ah (aS (ag 3) (ay bu av (ay bJ (ag 2) av))) (aH 10 am)))))))
   (bg (aT (aH 8 (aH 4 (aH 9 am)))))))))))))))))))
theorem Xd:Fn P w K mg base 3 "_law_rows" qR:=T.d55.fq T.hX yB ["_law_script","_law_names_here","_law_measure","_law_most","_law_head","_law_rows_here","_law_had","_law_k","_law_rule","_law_matters","_law_late","_law_further","_law_cell_here","_law_day","_law_deed_here"] 4 λnd hr hu=>
  (ao (aG nd (bf (G9 T) hr (aH 0 (bV am))))
   (ao (aG nd (bG am))
   (ao (aG nd (bG am))
   (ao (yt (jj T.n11 (ay bu av (ay bJ (ag 4) av))) (z5 7 nd) eO (ao (aG nd (aS (bG (ah aB (ah aB (ah aB am)))) (ay bJ (ay bN (ag 4) (ay bu av (ay cQ av (ag 7)))) av)))
   (ao (aG nd (aS (bG (bV (bV (bV (bV am))))) (ay bJ (ay bN (ag 4) (ay bu av (ay cQ av (ag 7)))) av)))
   (ao (aG nd (ay cQ (ay cQ (gW PH T.n5 K1 (ah (cz (cP hu) (ay bJ (ay bN (ag 4) (ay bu av (ag 7))) av) av) am)) av) (ag 2)))
   (ao (aG nd (ay bJ (ay bN (ag 4) (ay bu av (ay cQ av (ag 7)))) (aS (bG (bV (bV (bV am)))) (ay bJ (ay bN (ag 4) (ay bu av (ag 7))) av))))
   (ao (fX (i:=5) (aT (aH 10 (ah (aT (ah aB (ah (aS (ag 1) (ay bu av (ag 7))) (aH 9 (aH 11 (aH 8 am)))))) am))))
   (ao (fX (i:=5) (aT (bV (ah (aT (ah aB (bV (ah (aS (ag 1) (ay bu av (ag 7))) (ah (aS (ag 1) (ag 7)) am))))) am))))
   (bq (fX (i:=6) (aS (ag 1) (ag 7)))))))))))
   (ao (yt (jj T.n11 (ay bu av (ay bJ (bf (G9 T) hr (aH 0 (bV am))) (ag 3)))) (z5 7 nd) eO (ao (aG nd (bf (G9 T) hr (aH 0 (ah (ay bu av (ag 7)) am))))
   (ao (aG nd (ay cQ (ay bu (ay bN (ag 7) av) (ay bJ (ay bN (ag 12) av) av)) (ag 2)))
   (ao (aG nd (bf (Xc T) hr (ah (b8 jP T.n7 jQ (aH 5 am)) (ah (bf (G9 T) hr (aH 0 (ah (ay bu av (ag 7)) am))) (ah (bf (G9 T) hr (aH 0 (ah (ay bu av (ag 7)) am))) (aH 1 (aH 13 (aH 6 (aH 2 am)))))))))
   (ao (eP (aM sS (bK 14) (aT (ah aB (ah aB am)))) (bq (fX (i:=6) (bK 14))) dN)
   (ao (eP (aM (cP hu) (bK 14) aB) (bq (fX (i:=6) (bK 14))) dN)
   (bq (fX (i:=5) (aT (ah (ay bu (ag 13) (ay cQ (by refine aS (hs:=?_) ?_ ?_;refine bG ?_;refine bV ?_;refine bV ?_;refine bV ?_;refine bV ?_;refine bV ?_;refine bV ?_;exact am;exact(ay bJ (ay bN (ag 12) av) av);intro _ _;rfl) (ag 2))) (aH 14 am)))))))))))
   (bg (gW Bi T.n14 Bd (aH 5 am))))))))
theorem Xe:Fn P w K mg base 12 "calls" p5:=T.d56.fq T.hX BK ["book","known","number","day"] 4 λnd hr hu=>
  (bg (bf (Vf T) hr (aH 0 (aH 1 (ah (a8 (SY T) hr) (aH 2 (aH 3 am)))))))
theorem Xf:Fn P w K mg base 12 "bases" kX:=T.d57.fq T.hX BL ["book","known","number"] 3 λnd hr hu=>
  (bg (bf (Ve T) hr (aH 0 (aH 1 (ah (a8 (SY T) hr) (aH 2 am))))))
theorem Xg:Fn P w K mg base 13 "_law_due" wn:=T.d58.fq T.hX BM ["_law_rows_here","_law_known","_law_day","_law_order","_law_k","_law_there","_law_deed_here","_law_stand","_law_when"] 3 λnd hr hu=>
  (ao (aG nd (bG am))
   (ao (yt (jj T.n11 (b8 jP T.n7 jQ (aH 0 am))) (z5 4 nd) eO (ao (Iv (is:=[5,6]) (aS (ag 0) (ag 4)) (M7 rfl (eM (z5 5 nd) (eM (z5 6 nd) lX))))
   (bq (eP (ki (iU (aM mq (ag 5) (ag 1)) (iU (aM sS (bK 6) (aT (ah aB (ah aB (ah aB (ah aB am)))))) (gQ (aM mq (bK 6) (ag 2)))))) (bq (fX (i:=3) (aT (ah (bK 6) (aH 4 am))))) dN))))
   (ao (aG nd (bG am))
   (ao (EW [3] (qq (c6 (b8 yk T.n13 mv (aH 3 am))) (ut rfl (eM (z5 8 nd) (eM (z5 4 nd) lX))) K3 (bq (eP (ki (iU (bW (a8 (R7 T) hr)) (gQ (aM (cP hu) (a8 (Xe T) hr) (bG am))))) (bq (eP (bW (b8 EO T.n1 EQ (ah (iL ["_law_base","_law_stand"] (c6 (a8 (Xf T) hr)) j4 (AU (cz (cP hu) (bK 0) aB) (eZ (cz sS (aS (ag 0) (E5 EG av)) (ag 1))))) am))) (bq (fX (i:=7) (ag 4))) dN)) dN))))
   (bg (b8 yk T.n13 mv (aH 7 am)))))))
theorem head {fa:Addr}(T8:mg "law" = some (.ref fa)):∃fd:FuncData,(∀(s:Shared)(u:Value),BindsTo s fd ⟨[u],[]⟩ [("_law_script",u)])/\∀base:Heap,K.In base->base.Ns mainGlobals mg->sw P w K mg base zw 15 fa fd ["_law_script"] (Ih K F_law):=by
 have S:FnScope ["_law_script","_law_names_here","_law_measure","_law_rows_here","_law_known","_law_handed","_law_days","_law_day","_law_due_here","_law_turn","_law_found"] ["_law_script"] (aP (fD 69)):=by refine⟨rfl,rfl,rfl,?_,rfl,?_,?_⟩<;>decide +kernel
 have ⟨h,X,G⟩:=T.hX;exact dH.law T.d59 X G T8 S (λ_ _ _ _ _ _ u=>rfl) λbase kb nb f eK A outer s H E hr=>have hu:=CL hr;have nd:=S.nd;(show wI _ _ KG from
  (ao (aG nd (bf (Xb T) hr (ah (bf (G9 T) hr (aH 0 (bV am))) am)))
   (ao (aG nd (aS (bG (bV (bV (bV am)))) (ay bJ (bf (G9 T) hr (aH 0 (bV am))) av)))
   (ao (aG nd (bf (Xd T) hr (aH 0 (aH 1 (aH 2 (bV am))))))
   (ao (aG nd (aS (bG (bV (ah (ay cQ (ay bJ (ay bN (bf (G9 T) hr (aH 0 (bV am))) av) av) (ag 2)) am))) (ay bN (ay bJ (bf (G9 T) hr (aH 0 (bV am))) av) av)))
   (ao (aG nd (gW Bi T.n14 Bd (ah (gW EX T.n8 zY (aH 3 am)) am)))
   (ao (aG nd (bG (ah (ay cQ (ay bJ (bf (G9 T) hr (aH 0 (bV am))) av) (ag 2)) (ah (ay bu (ay cQ (ay bJ (bf (G9 T) hr (aH 0 (bV am))) av) (ag 2)) (ay bN (ag 2) av)) (bV am)))))
   (ao (EW [6] (qq (c6 (ag 6)) (z5 7 nd) eO (ao (aG nd (a8 (Xg T) hr))
   (bq (yt (jj T.n11 av) (z5 9 nd) eO (ao (aG nd (a8 (Xa T) hr))
   (ao (cB (ki (ln (fW (bW (b8 j8 T.n6 j7 (aH 10 (ah (EE T.n8 zY) am))))) (kh (aM (Ii hu) (ag 10) (ag 8))))) ji)
   (ao (cB (fW (bW (b8 PB T.n0 P4 (ah (iL ["_law_one"] (c6 (ag 10)) j4 (gJ (b8 j8 T.n6 j7 (aH 0 (ah (EE T.n5 K1) am))) (eZ (Mg (b8 j8 T.n6 j7 (aH 0 (ah (EE T.n2 Mu) am))))))) am)))) ji)
   (bq (fX (i:=10) av))))))))))
   (bg (cz (cP hu) (ag 5) (ag 3)))))))))))
end
end Lw
end
namespace PySem.W.Fast
def tw6883349386657589885:=()
def tw10987340144203424264:=()
def tw9091217191189643085:=()
def tw189599802879879796:=()
def tw2651597862817492356:=()
def tw4102234960205174067:=()
def tw787424271309613518:=()
def tw1292351299952246337:=()
def tw9181086374529948594:=()
def tw631279165498468536:=()
def tw1448755791157186965:=()
def tw4085462163170955771:=()
def tw10812921041488662301:=()
def tw16382206241278378215:=()
def tw8973895476063992793:=()
def tw17582668025396010431:=()
def tw243434626697866154:=()
def tw214031088015373644:=()
def tw7519072275897397329:=()
def tw3222114309526063025:=()
def tw13221651415268188002:=()
def tw5329836397239909051:=()
def tw3973633964796014833:=()
def tw15217201128948801837:=()
def tw6829220547073046569:=()
def tw13564188305128998957:=()
def tw15177489755953194435:=()
def tw13900830957701414498:=()
def tw9668697017039591217:=()
def tw15359166288300508059:=()
def tw14968499702128074292:=()
def tw284130992098310301:=()
def tw13054680001418815804:=()
def tw5812332237985383908:=()
def tw4881788528427063810:=()
def tw2964908489962993583:=()
def tw8694330081277555258:=()
def tw2941129435982379338:=()
def tw9204603955375014186:=()
def tw13086963150060843893:=()
def tw12304956528195011777:=()
def tw13249732080851686382:=()
def tw16496670683405677972:=()
def tw14000045220728597625:=()
def tw14326891818915310880:=()
def tw3296643990641966995:=()
def tw5379213487880524564:=()
def tw10856459165635574100:=()
def tw1577185339718226091:=()
def tw10467200534128626846:=()
def tw11656296858654944866:=()
def tw10685491326824363703:=()
def tw3768708172905132477:=()
def tw7906524728597729394:=()
def tw11039619123818514924:=()
def tw14409315045446180122:=()
def tw5302141828780698608:=()
def tw15488385737658529244:=()
def tw5901196078620503633:=()
def tw2963227161861642071:=()
def tw16131595820345533963:=()
def tw17849071763779829068:=()
def tw7327957748741828964:=()
def tw18428782554417849789:=()
def tw13664346821931041101:=()
def tw12750150851416539419:=()
def tw2593683588056709008:=()
def tw3352825595492623868:=()
def tw8936784297956103650:=()
def tw14490779230563510464:=()
def tw759514611632615711:=()
def tw3104762186651502080:=()
def tw7459404622765299997:=()
def tw1358672794308887210:=()
def tw18389200871529585208:=()
def tw3531104535246712342:=()
def tw9833474906045133353:=()
def tw15787456016881699602:=()
def tw2587005941626726321:=()
def tw8659932267146593542:=()
def tw10195121304025679311:=()
def tw18428283583915501077:=()
def tw5595201837914993003:=()
def tw16430822739801210412:=()
def tw667564459003450108:=()
def tw12724781429703494564:=()
def tw9996824928386980125:=()
def tw9023139949238135360:=()
def tw1059977992789286927:=()
def tw17520909031609191135:=()
def tw4141837154080943582:=()
def tw3506720276038135549:=()
def tw243228172519042930:=()
def tw5994502206844154382:=()
def tw10041664352447722666:=()
def tw67419908253134006:=()
def tw9451403744795962198:=()
def tw12435302803655150895:=()
def tw14395699069678992762:=()
def tw7773516624374740701:=()
def tw16593499602934036389:=()
def tw10365668959952263482:=()
def tw2754291790315580245:=()
def tw1282500704482819106:=()
def tw13607850173576937275:=()
def tw4190535976358730656:=()
def tw6851234887991002558:=()
def tw10984792889597969500:=()
def tw17827037850050855345:=()
def tw5604247741497178223:=()
def tw11126608252697162361:=()
def tw10866968379019220807:=()
def tw15351869563948513067:=()
def tw10952698588898373324:=()
def tw2229101957252781946:=()
def tw11086262735973484458:=()
def tw18441384709099418152:=()
def tw2910227420303218272:=()
def tw3357377978514308623:=()
def tw4754430386820825080:=()
def tw1327318187139284452:=()
def tw2257117144110518699:=()
def tw6898832689318267981:=()
def tw16502739414822116651:=()
end PySem.W.Fast
open PySem PySem.W PyProof.Rows
set_option maxRecDepth 100000 in
set_option maxHeartbeats 0 in
theorem PySem.Challenge.cw_sealchain_k28_what_stands_holds : PySem.Challenge.rw_sealchain_k28_what_stands.Holds := by
 w_on; o_law; k_head; (case hw => w_witness2)
 k_fill
 refine' DL.walkD (l := PySem.Challenge.rw_sealchain_k28_what_stands) (k := 15) (x := ("_law_script" : PySem.Str)) (f := Lw.F_law) (L := [(("in_order" : PySem.Str), ?t0), (("has_seal" : PySem.Str), ?t1), (("is_first_death" : PySem.Str), ?t2), (("bases_by" : PySem.Str), ?t3)]) rfl rfl ⟨rfl, by decide, by decide⟩ (fun w h Y => PySem.W.km_in_of Y) ?T ?D ?F Lw.law_true
 case T =>
  intro w
  refine' DL.tabs_fit ?h0 ?h1 ?h2 ?h3 ?ap ?nt
  (case h0 => refine' DL.tab_yes ?a ?l ?c ?m ?v; (case a => k_is); (case l => k_is); (case c => exact rfl); (case m => k_is); (case v => exact rfl))
  (case h1 => refine' DL.tab_yes ?a ?l ?c ?m ?v; (case a => k_is); (case l => k_is); (case c => exact rfl); (case m => k_is); (case v => exact rfl))
  (case h2 => refine' DL.tab_yes ?a ?l ?c ?m ?v; (case a => k_is); (case l => k_is); (case c => exact rfl); (case m => k_is); (case v => exact rfl))
  (case h3 => refine' DL.tab_yes ?a ?l ?c ?m ?v; (case a => k_is); (case l => k_is); (case c => exact rfl); (case m => k_is); (case v => exact rfl))
  (case ap => decide)
  (case nt => kernel_rfl)
 case D => kernel_rfl
 case F =>
  intro w mg fa h KX G hmg
  refine' Lw.head ⟨⟨h, KX, G⟩, ?d0, ?d1, ?d2, ?d3, ?d4, ?d5, ?d6, ?d7, ?d8, ?d9, ?d10, ?d11, ?d12, ?d13, ?d14, ?d15, ?d16, ?d17, ?d18, ?d19, ?d20, ?d21, ?d22, ?d23, ?d24, ?d25, ?d26, ?d27, ?d28, ?d29, ?d30, ?d31, ?d32, ?d33, ?d34, ?d35, ?d36, ?d37, ?d38, ?d39, ?d40, ?d41, ?d42, ?d43, ?d44, ?d45, ?d46, ?d47, ?d48, ?d49, ?d50, ?d51, ?d52, ?d53, ?d54, ?d55, ?d56, ?d57, ?d58, ?d59, PySem.W.mg_none_of KX G ?z0, PySem.W.mg_none_of KX G ?z1, PySem.W.mg_none_of KX G ?z2, PySem.W.mg_none_of KX G ?z3, PySem.W.mg_none_of KX G ?z4, PySem.W.mg_none_of KX G ?z5, PySem.W.mg_none_of KX G ?z6, PySem.W.mg_none_of KX G ?z7, PySem.W.mg_none_of KX G ?z8, PySem.W.mg_none_of KX G ?z9, PySem.W.mg_none_of KX G ?z10, PySem.W.mg_none_of KX G ?z11, PySem.W.mg_none_of KX G ?z12, PySem.W.mg_none_of KX G ?z13, PySem.W.mg_none_of KX G ?z14, DL.kc_of KX G ?k0, DL.kd_of KX G ?k1, DL.kc_of KX G ?k2, ?q0, ?q1, ?q2, ?q3⟩ hmg
  iterate 60 (refine' DL.def_mk ?a ?l ?c ?k; (case a => k_is); (case l => k_is); (case c => k_is); (case k => k_is))
  (case z0 => k_is)
  (case z1 => k_is)
  (case z2 => k_is)
  (case z3 => k_is)
  (case z4 => k_is)
  (case z5 => k_is)
  (case z6 => k_is)
  (case z7 => k_is)
  (case z8 => k_is)
  (case z9 => k_is)
  (case z10 => k_is)
  (case z11 => k_is)
  (case z12 => k_is)
  (case z13 => k_is)
  (case z14 => k_is)
  (case k0 => refine' DL.const_tup ?e ?l ?v; (case e => k_is); (case l => k_is); (case v => decide +kernel))
  (case k1 => refine' DL.const_dict ?e ?l ?r ?s; (case e => k_is); (case l => k_is); (case r => refine' (DL.CRows.tup rfl ?l0 ?f0 (DL.CRows.tup rfl ?l1 ?f1 (DL.CRows.tup rfl ?l2 ?f2 (DL.CRows.tup rfl ?l3 ?f3 (DL.CRows.tup rfl ?l4 ?f4 (DL.CRows.tup rfl ?l5 ?f5 (DL.CRows.tup rfl ?l6 ?f6 (DL.CRows.tup rfl ?l7 ?f7 (DL.CRows.tup rfl ?l8 ?f8 (DL.CRows.tup rfl ?l9 ?f9 (DL.CRows.tup rfl ?l10 ?f10 (DL.CRows.tup rfl ?l11 ?f11 DL.CRows.nil)))))))))))); (case l0 => k_is); (case f0 => decide +kernel); (case l1 => k_is); (case f1 => decide +kernel); (case l2 => k_is); (case f2 => decide +kernel); (case l3 => k_is); (case f3 => decide +kernel); (case l4 => k_is); (case f4 => decide +kernel); (case l5 => k_is); (case f5 => decide +kernel); (case l6 => k_is); (case f6 => decide +kernel); (case l7 => k_is); (case f7 => decide +kernel); (case l8 => k_is); (case f8 => decide +kernel); (case l9 => k_is); (case f9 => decide +kernel); (case l10 => k_is); (case f10 => decide +kernel); (case l11 => k_is); (case f11 => decide +kernel)); (case s => decide +kernel))
  (case k2 => refine' DL.const_tup ?e ?l ?v; (case e => k_is); (case l => k_is); (case v => decide +kernel))
  (case q0 => refine' DL.lam_mk ?a ?l ?c ?m ?v1 ?v2 ?v3 ?v4 ?v5 ?v6 ?v7; (case a => k_is); (case l => k_is); (case c => exact rfl); (case m => k_is); (case v1 => exact rfl); (case v2 => exact rfl); (case v3 => exact rfl); (case v4 => exact rfl); (case v5 => exact rfl); (case v6 => exact rfl); (case v7 => decide))
  (case q1 => refine' DL.lam_mk ?a ?l ?c ?m ?v1 ?v2 ?v3 ?v4 ?v5 ?v6 ?v7; (case a => k_is); (case l => k_is); (case c => exact rfl); (case m => k_is); (case v1 => exact rfl); (case v2 => exact rfl); (case v3 => exact rfl); (case v4 => exact rfl); (case v5 => exact rfl); (case v6 => exact rfl); (case v7 => decide))
  (case q2 => refine' DL.lam_mk ?a ?l ?c ?m ?v1 ?v2 ?v3 ?v4 ?v5 ?v6 ?v7; (case a => k_is); (case l => k_is); (case c => exact rfl); (case m => k_is); (case v1 => exact rfl); (case v2 => exact rfl); (case v3 => exact rfl); (case v4 => exact rfl); (case v5 => exact rfl); (case v6 => exact rfl); (case v7 => decide))
  (case q3 => refine' DL.lam_mk ?a ?l ?c ?m ?v1 ?v2 ?v3 ?v4 ?v5 ?v6 ?v7; (case a => k_is); (case l => k_is); (case c => exact rfl); (case m => k_is); (case v1 => exact rfl); (case v2 => exact rfl); (case v3 => exact rfl); (case v4 => exact rfl); (case v5 => exact rfl); (case v6 => exact rfl); (case v7 => decide))

