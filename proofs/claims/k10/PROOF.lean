import PyProof.Rows.All
import Wide.All
import OpenK.AllK
import Wide.FinOn
import Lean
import PyProof.EqAt
import PyProof.EqKinds
import PyProof.TupleCall
import PyProof.AttrMissHeap
import PyProof.ExcInit
import PyProof.ExcClass2
import PyProof.ExcFactsAll.ValueError
import PyProof.ExcBaseAll.ValueError
import PyProof.ExcArgs
import PyProof.InstStoreFacts
import KE.KTryMore
import PyProof.NsDelKeeps
import PyProof.RulesAs
import PySem.Challenge.RW_sealchain_k10_no_registers
set_option Elab.async false
set_option linter.all false
set_option maxRecDepth 100000
set_option bootstrap.genMatcherCode false
set_option compiler.extract_closed false
set_option maxHeartbeats 40000000
theorem mY {α:Type _}{a:α}(l:List α){k:List α}(h:a∈k):a∈l++k:=List.mem_append_right l h
theorem mZ {α:Type _}(b:α){a:α}{l:List α}(h:a∈l):a∈b::l:=List.mem_cons_of_mem b h
theorem mX {α:Type _}{a:α}{l:List α}:a∈a::l:=List.mem_cons_self
theorem oX {α β:Type _}{o:Option α}{f:α->Option β}{b:β}(h:o.bind f=some b):∃a,o=some a/\f a=some b:=Option.bind_eq_some_iff.mp h
theorem oY {α β:Type _}{f:α->β}{o:Option α}{b:β}(h:o.map f=some b):∃a,o=some a/\f a=b:=Option.map_eq_some_iff.mp h
def wX:=@PySem.wpAny_bind
def wY:=@PySem.wpAny_pure
def vZ:=@PySem.Heap.get?_push_of_some
def vY:=@PySem.Heap.get?_push_size
def vX:=@PySem.Heap.lt_size
def vW:=@PySem.Heap.SameBut.update
theorem vV {α:Type _}{l:List α}{i:Nat}{a:α}(h:l[i]? = some a):∃h:i<l.length,l[i]=a:=List.getElem?_eq_some_iff.mp h
theorem vU {α:Type _}{l:List α}{i:Nat}(h:i<l.length):l[i]? = some l[i]:=List.getElem?_eq_getElem h
theorem vT (n:Nat):n<=n:=Nat.le_refl n
theorem vS {a b:Nat}(h:a<b):a≠b:=Nat.ne_of_lt h
theorem vR {n m k:Nat}:n<=m->m<=k->n<=k:=Nat.le_trans
theorem vQ {n m k:Nat}:n<m->m<=k->n<k:=Nat.lt_of_lt_of_le
theorem vP {α:Type _}{a b:α}{l:List α}(h:b∈a::l):b=a∨b∈l:=List.mem_cons.mp h
theorem vO {α β:Type _}{b:β}{f:α->β}{l:List α}(h:b∈l.map f):∃a,a∈l/\f a=b:=List.mem_map.mp h
theorem vJ {α:Type _}{a b:α}(h:some a=some b):a=b:=Option.some.inj h
theorem vI {α β:Type _}(a:α)(f:α->Option β):(some a).bind f=f a:=rfl
theorem vH {α β:Type _}{as:List α}(f:α->β):(as.map f).length=as.length:=List.length_map f
theorem vG {α:Type _}{l:List α}:l.toArray.size=l.length:=rfl
theorem vF {α:Type _}{xs:Array α}:xs.toList.length=xs.size:=rfl
theorem vD {α:Type _}{a:α}{as:List α}:(a::as).length=as.length+1:=rfl
theorem vC (a b:Bool):((a && b)=true)=(a=true/\b=true):=Bool.and_eq_true a b
theorem vB {α:Type _}{i j:Nat}{a:α}{l:List α}(h:i≠j):(l.set i a)[j]? = l[j]?:=List.getElem?_set_ne h
theorem vA {α β:Type _}{f:α->β}{l:List α}{i:Nat}:(l.map f)[i]? = Option.map f l[i]?:=List.getElem?_map
theorem uZ {α:Type _}{as bs:List α}:(as++bs).length=as.length+bs.length:=List.length_append
theorem uX:false≠true:=Bool.false_ne_true
theorem uV:(false=true)=False:=Bool.false_eq_true
theorem uT {α:Type _}{a b:α}(h:a∈[b]):a=b:=List.mem_singleton.mp h
theorem uR {α:Type _}{l:List α}{p:α->Bool}(h:l.all p=true):∀x∈l,p x=true:=List.all_eq_true.mp h
theorem uQ {α:Type _}(as:List α):as++[]=as:=List.append_nil as
theorem uN (n:Nat):0<=n:=Nat.zero_le n
noncomputable section
open PySem.W (Frag kia_one fnOf mg_of)
namespace L2
open PySem PySem.Spec PyProof.Rows
abbrev iA:=Sum Int Str
noncomputable def zQ:iA->Value->Bool
 |.inl k,v=>Value.isInt k v
 |.inr x,v=>Value.isStrOf x v
noncomputable def Gr (w:World):iA->Int
 |.inl k=>hashInt k
 |.inr x=>hashStr w x
theorem bV:∀ {k:iA}{v:Value},zQ k v=true->(∃i t,k=Sum.inl i/\v=Value.int i t)∨(∃x t,k=Sum.inr x/\v=Value.str x t)
 |.inl i,v,h=>by
  obtain⟨t,e⟩:=Value.isInt_shape (k:=i) (v:=v) h;exact .inl ⟨i,t,rfl,e⟩
 |.inr x,v,h=>by
  obtain⟨t,e⟩:=Value.isStrOf_shape (x:=x) (v:=v) h;exact .inr ⟨x,t,rfl,e⟩
theorem AI (a b:Int):decide ((Sum.inl a:iA)=Sum.inl b)=(a == b):=by
 by_cases e:a=b
 ·subst e;simp
 ·have h:¬(Sum.inl a:iA)=Sum.inl b:=λq=>e (Sum.inl.inj q);rw[decide_eq_false h];exact(beq_eq_false_iff_ne.mpr e).symm
theorem AJ (a b:Str):decide ((Sum.inr a:iA)=Sum.inr b)=decide (a=b):=by
 by_cases e:a=b
 ·subst e;simp
 ·have h:¬(Sum.inr a:iA)=Sum.inr b:=λq=>e (Sum.inr.inj q);rw[decide_eq_false h,decide_eq_false e]
theorem AK (a:Int)(b:Str):decide ((Sum.inl a:iA)=Sum.inr b)=false:=decide_eq_false (λq=>nomatch q)
theorem AL (a:Str)(b:Int):decide ((Sum.inr a:iA)=Sum.inl b)=false:=decide_eq_false (λq=>nomatch q)
def rq (prog:Program)(w:World):PySem.KeyKind prog w iA where
 is:=zQ
 hash:=Gr w
 inj:=λv a b ha hb=>by
  rcases bV ha with⟨i,t,rfl,rfl⟩|⟨x,t,rfl,rfl⟩
  ·rcases bV hb with⟨j,u,rfl,e⟩|⟨y,u,rfl,e⟩
   ·injection e with e1 _;rw[e1]
   ·exact nomatch e
  ·rcases bV hb with⟨j,u,rfl,e⟩|⟨y,u,rfl,e⟩
   ·exact nomatch e
   ·injection e with e1 _;rw[e1]
 byValue:=λk v h=>by
  rcases bV h with⟨i,t,rfl,rfl⟩|⟨x,t,rfl,rfl⟩<;>rfl
 pyHash:=λhv h=>by
  rcases bV hv with⟨i,t,rfl,rfl⟩|⟨x,t,rfl,rfl⟩
  ·exact wpAny_pyHash_int h
  ·exact wpAny_pyHash_str h
 eqBool:=λhu hv h=>by
  rcases bV hu with⟨i,t,rfl,rfl⟩|⟨x,t,rfl,rfl⟩
  ·rcases bV hv with⟨j,u,rfl,rfl⟩|⟨y,u,rfl,rfl⟩
   ·rw[AI]at h;exact wpAny_eqBool_int h
   ·rw[AK]at h;exact SeqAt.EqAt.int_str i t y u _ _ _ _ h
  ·rcases bV hv with⟨j,u,rfl,rfl⟩|⟨y,u,rfl,rfl⟩
   ·rw[AL]at h;exact SeqAt.EqAt.str_int x t j u _ _ _ _ h
   ·rw[AJ]at h;exact wpAny_eqBool_str h
 «strs»:=λk x t v h=>by
  rcases bV h with⟨i,u,rfl,e⟩|⟨y,u,rfl,e⟩
  ·exact nomatch e
  ·injection e with e1 _;subst e1;cases v<;>rfl
inductive V where
 |non|bl (b:Bool)|int (i:Int)|str (x:Str)|byt (b:Array UInt8)|flt (b:UInt64)|ref (a:Addr)|ty (n:String)
 deriving DecidableEq
def aI:V->Value->Prop
 |.non,u=>u=Value.none
 |.bl b,u=>u=Value.bool b
 |.int i,u=>∃t,u=Value.int i t
 |.str x,u=>∃t,u=Value.str x t
 |.byt b,u=>∃t,u=Value.bytes b t
 |.flt b,u=>∃t,u=Value.float b t
 |.ref a,u=>u=Value.ref a
 |.ty n,u=>u=Value.type n
abbrev aT:List V->List Value->Prop:=Paired aI
theorem aT.length (r:aT xs us):xs.length=us.length:=Paired.length r
theorem aT.get:∀ {xs:List V}{us:List Value}{i:Nat}{x:V},aT xs us->xs[i]? = some x->∃u,us[i]? = some u/\aI x u
 |_,_,_,_,.nil,e=>by simp at e
 |_,_,0,_,.cons r _,e=>by simp at e;subst e;exact⟨_,rfl,r⟩
 |_,_,i+1,x,.cons _ t,e=>by
  obtain⟨u,h1,h2⟩:=aT.get (i:=i) (x:=x) t (by simpa using e);exact⟨u,by simpa using h1,h2⟩
theorem aT.set (r:aI x u):∀ {xs:List V}{us:List Value}(i:Nat),aT xs us->aT (xs.set i x) (us.set i u)
 |_,_,_,.nil=>.nil
 |_,_,0,.cons _ t=>.cons r t
 |_,_,i+1,.cons q t=>.cons q (aT.set r i t)
theorem aT.append:∀ {xs ys:List V}{us ws:List Value},aT xs us->aT ys ws->aT (xs++ys) (us++ws)
 |_,_,_,_,.nil,s=>s
 |_,_,_,_,.cons r t,s=>.cons r (aT.append t s)
theorem aT.take:∀ {xs:List V}{us:List Value}(n:Nat),aT xs us->aT (xs.take n) (us.take n)
 |_,_,0,_=>.nil
 |_,_,_+1,.nil=>.nil
 |_,_,n+1,.cons r t=>.cons r (aT.take n t)
theorem aT.drop:∀ {xs:List V}{us:List Value}(n:Nat),aT xs us->aT (xs.drop n) (us.drop n)
 |_,_,0,r=>r
 |_,_,_+1,.nil=>.nil
 |_,_,n+1,.cons _ t=>aT.drop n t
theorem aT.none_of:∀ {xs:List V}{us:List Value}{i:Nat},aT xs us->xs[i]? = none->us[i]? = none:=λ{xs us i} r e=>by
 have h1:=r.length;have h2:xs.length<=i:=List.getElem?_eq_none_iff.mp e;exact List.getElem?_eq_none_iff.mpr (by omega)
def lF:Option V->Option Value->Prop
 |some v,some u=>aI v u
 |none,none=>True
 |_,_=>False
def KV {κ:Type}:List (κ×V)->List (κ×Value)->Prop:=Paired λ(p:κ×V) (q:κ×Value)=>p.1=q.1/\aI p.2 q.2
noncomputable def kV:iA->V
 |.inl i=>.int i
 |.inr x=>.str x
inductive HO where
  |lst (xs:List V)
  |tup (xs:List V)
  |dK (b8:List (iA×V)) (ob:Obj)|dT (b8:List (List iA×V))
  |set (S:Int->Bool) (n:Nat)
  |ins (C dx:Addr) (fs:List (Str×V))
  |own (x:Addr)
  |xd (fs:List (Str×V))
  |met (f x:Addr)
  |rng (lo hi:Int)
  |frz (o:Obj) (u:HO)
  |tbl (q:Str)
  |ext (φ:Heap->Prop)
abbrev Hp:=Addr->Option HO
noncomputable def upd (H:Hp)(a:Addr)(o:HO):Hp:=λb=>if b=a then some o else H b
theorem aw:upd H a o a=some o:=by unfold upd;rw[if_pos rfl]
theorem au (h:b≠a):upd H a o b=H b:=by unfold upd;rw[if_neg h]
theorem jU:upd (upd H a o) a u=upd H a u:=by
 funext b;unfold upd;split<;>rfl
theorem aP {H:Hp}{a b:Addr}{o:HO}(h:H a=some o)(h':H b=none):a≠b:=by
 intro e;subst e;rw[h]at h';cases h'
section
variable (P:Program) (w:World)
def bC (H:Hp)(h:Heap)(a:Addr):HO->Prop
 |.lst xs=>xs.length<=sizeLine/\∃(its:List Value)(n:Nat),aT xs its/\h.get? a=some { cls:=.type "list",data:=.seq its.toArray n }
 |.tup xs=>xs.length<=sizeLine/\∃its:List Value,aT xs its/\IsTup h a its.toArray
 |.dK b8 ob=>h.get? a=some ob/\b8.length<=sizeLine/\(a == sysModules)=false/\∃vs,KV b8 vs/\h.DictOf (rq P w) a vs
 |.dT b8=>b8.length<=sizeLine/\(a == sysModules)=false/\∃xs:List (List iA×Addr×Value),
   Paired (λ(p:List iA×V) (q:List iA×Addr×Value)=>p.1=q.1/\H q.2.1=some (.tup (p.1.map kV))/\aI p.2 q.2.2) b8 xs /\
   ∃o es ep,h.get? a=some o/\o.ExactDict/\o.data=.dict es ep/\es.toList=xs.map (entryOfKey (tupleKind (rq P w)))/\(xs.map (·.1)).Nodup
 |.set S n=>h.SetOf (intKind P w) a S n
 |.ins C dx fs=>H dx=some (.own a)/\fs.length<=1000/\dx≠a/\h.get? a=some (PySem.W.instObj C dx) /\
   ∃mA,h.Ns1 dx mA/\(∀f,lF (fs.lookup f) (mA f))/\PySem.Within mA (fs.map (·.1))
 |.own _=>∃o,h.get? a=some o
 |.xd fs=>∃mA,h.Ns1 a mA/\∀f,lF (fs.lookup f) (mA f)
 |.rng lo hi=>∃t u v,h.get? a=some { cls:=.type "range",data:=.fields #[.int lo t,.int hi u,.int 1 v] }
 |.frz o u=>h.get? a=some o/\bC H h a u
 |.tbl q=>∃ps:Array Value,h.get? a=some { cls:=.none,data:=.fields ps }/\TriplesOk ps.toList/\∀pos cv,codeAmong pos ps.toList=some cv->∃(c:Addr)(oc:Obj)(u:HO)(vs:Array Value)(t:Tok),cv=.ref c/\H c=some (.frz oc u)/\oc.data=.fields vs/\vs[1]? = some (.str q t)
 |.met f x=>h.get? a=some (PySem.W.methodObj (.ref f) (.ref x))
 |.ext φ=>φ h/\(∃o,h.get? a=some o)/\∀h1 h2:Heap,φ h1->(∀o,h1.get? a=some o->h2.get? a=some o)->φ h2
def j0 (H:Hp)(h:Heap):Prop:=∀a o,H a=some o->bC P w H h a o
end
section
variable {P:Program}{w:World}{H H':Hp}{h h':Heap}{a:Addr}{o:HO}
theorem bC.lt (x:bC P w H h a o):a<h.objs.size:=by
 cases o with
 |lst xs=>obtain⟨_,_,_,_,e⟩:=x;exact vX e
 |tup xs=>obtain⟨_,_,_,p⟩:=x;exact p.lt
 |dK b8 ob=>exact vX (And.left x)
 |dT b8=>obtain⟨_,_,_,_,o,_,_,e,_⟩:=x;exact vX e
 |set S n=>obtain⟨o,_,_,_,e,_⟩:=x;exact vX e
 |ins C dx fs=>obtain⟨_,_,_,e,_⟩:=x;exact vX e
 |own y=>obtain⟨_,e⟩:=x;exact vX e
 |xd fs=>obtain⟨_,⟨_,_,_,e,_⟩,_⟩:=x;exact vX e
 |rng lo hi=>obtain⟨_,_,_,e⟩:=x;exact vX e
 |frz ob u=>obtain⟨e,_⟩:=x;exact vX e
 |tbl q=>obtain⟨_,e,_⟩:=x;exact vX e
 |met f y=>exact vX (show h.get? a=some _ from x)
 |ext φ=>obtain⟨_,⟨_,e⟩,_⟩:=x;exact vX e
theorem Paired.mapP {α β:Type}{F G:α->β->Prop}:∀ {l₁:List α}{l₂:List β},Paired F l₁ l₂->(∀a b,F a b->G a b)->Paired G l₁ l₂
 |_,_,.nil,_=>.nil
 |_,_,.cons r t,f=>.cons (f _ _ r) (Paired.mapP t f)
theorem bC.stay (x:bC P w H h a o)(k:∀b u,(b=a∨H b=some (.own a))->h.get? b=some u->h'.get? b=some u)
  (ho:∀b,H b=some (.own a)->H' b=some (.own a)) (ht:∀b xs,H b=some (.tup xs)->H' b=some (.tup xs)) (hf:∀b o u,H b=some (.frz o u)->H' b=some (.frz o u)):bC P w H' h' a o:=by
 induction o with
 |lst xs=>obtain⟨z,its,n,r,e⟩:=x;exact⟨z,its,n,r,k _ _ (.inl rfl) e⟩
 |tup xs=>obtain⟨z,its,r,ob,e,c⟩:=x;exact⟨z,its,r,ob,k _ _ (.inl rfl) e,c⟩
 |dK b8 KL=>obtain⟨g,z,y,vs,r,ob,es,ep,e,c⟩:=x;exact⟨k _ _ (.inl rfl) g,z,y,vs,r,ob,es,ep,k _ _ (.inl rfl) e,c⟩
 |dT b8=>
  obtain⟨z,y,xs,r,ob,es,ep,e,c⟩:=x;exact⟨z,y,xs,Paired.mapP r λp q z=>⟨z.1,ht _ _ z.2.1,z.2.2⟩,ob,es,ep,k _ _ (.inl rfl) e,c⟩
 |set S n=>obtain⟨ob,es,ep,t,e,c⟩:=x;exact⟨ob,es,ep,t,k _ _ (.inl rfl) e,c⟩
 |ins C dx fs=>
  obtain⟨d,z,ne,e,mA,⟨od,es,ep,e2,c⟩,r⟩:=x;exact⟨ho _ d,z,ne,k _ _ (.inl rfl) e,mA,⟨od,es,ep,k _ _ (.inr d) e2,c⟩,r⟩
 |own y=>obtain⟨ob,e⟩:=x;exact⟨ob,k _ _ (.inl rfl) e⟩
 |xd fs=>obtain⟨mA,⟨od,es,ep,e,c⟩,r⟩:=x;exact⟨mA,⟨od,es,ep,k _ _ (.inl rfl) e,c⟩,r⟩
 |rng lo hi=>obtain⟨t,u,v,e⟩:=x;exact⟨t,u,v,k _ _ (.inl rfl) e⟩
 |frz ob u ih=>obtain⟨e,q⟩:=x;exact⟨k _ _ (.inl rfl) e,ih q⟩
 |tbl q=>obtain⟨ps,e,t,c⟩:=x;exact⟨ps,k a _ (.inl rfl) e,t,λpos cv z=>let ⟨d,oc,u,vs,tk,z1,z2,z3⟩:=c pos cv z;⟨d,oc,u,vs,tk,z1,hf _ _ _ z2,z3⟩⟩
 |met f y=>
  have e:h.get? a=some (PySem.W.methodObj (.ref f) (.ref y)):=x;show h'.get? a=some (PySem.W.methodObj (.ref f) (.ref y));exact k a _ (.inl rfl) e
 |ext φ=>obtain⟨p,⟨o,e⟩,st⟩:=x;exact⟨st _ _ p λo q=>k _ _ (.inl rfl) q,⟨o,k _ _ (.inl rfl) e⟩,st⟩
theorem j0.lt (x:j0 P w H h)(e:H a=some o):a<h.objs.size:=(x a o e).lt
theorem j0.fresh (x:j0 P w H h)(e:h.objs.size<=a):H a=none:=by
 cases q:H a with
 |none=>rfl
 |some u=>exact absurd (vQ (x.lt q) e) (Nat.lt_irrefl _)
theorem j0.kept (x:j0 P w H h)(k:∀b u,h.get? b=some u->h'.get? b=some u):j0 P w H h':=λa o e=>
 (x a o e).stay (λb u _ q=>k b u q) (λ_ q=>q) (λ_ _ q=>q) λ_ _ _ q=>q
theorem j0.laid (x:j0 P w H h)(k:∀b u,h.get? b=some u->h'.get? b=some u)(hp:h.objs.size<=a)(new:bC P w (upd H a o) h' a o):j0 P w (upd H a o) h':=λb u e=>by
 have hn:=x.fresh hp;by_cases hb:b=a
 ·subst hb;rw[aw]at e;cases e;exact new
 ·rw[au hb]at e;exact(x b u e).stay (λc v _ q=>k c v q) (λc q=>by rw[au (aP q hn)];exact q) (λc xs q=>by rw[au (aP q hn)];exact q) λc o xs q=>by rw[au (aP q hn)];exact q
end
def Rd (H:Hp)(a:Addr)(u:HO):Prop:=H a=some u∨∃o,H a=some (.frz o u)
theorem Rd.of (h:H a=some u):Rd H a u:=.inl h
theorem Rd.ok (r:Rd H a u)(x:j0 P w H h):bC P w H h a u:=by
 rcases r with r|⟨o,r⟩
 ·exact x a u r
 ·obtain⟨_,q⟩:=x a _ r;exact q
def F0:Option HO->Prop
 |some (.lst _)=>True
 |some (.dK _ _)=>True
 |some (.dT _)=>True
 |some (.set _ _)=>True
 |some (.ins _ _ _)=>True
 |some (.ext _)=>True
 |_=>False
section
variable {P:Program}{w:World}{H:Hp}{h h':Heap}{x e:Addr}{o':HO}
theorem j0.write (ok:j0 P w H h)(mu:F0 (H x))(he:e=x∨H e=some (.own x))(k:∀b u,b≠e->h.get? b=some u->h'.get? b=some u)(CF:∃u,h'.get? e=some u)
  (new:bC P w (upd H x o') h' x o'):j0 P w (upd H x o') h':=λb u q=>by
 have Ex:∀c y,H c=some (.own y)->c≠x:=λc y r z=>by subst z;rw[r]at mu;exact mu
 have Hf:∀c xs,H c=some (.tup xs)->c≠x:=λc xs r z=>by subst z;rw[r]at mu;exact mu
 by_cases hb:b=x
 ·subst hb;rw[aw]at q;cases q;exact new
 ·rw[au hb]at q;by_cases xM:b=e
  ·have q':H b=some (.own x):=by
    rcases he with z|z
    ·exact absurd (xM.trans z) hb
    ·rw[xM];exact z
   rw[q]at q';cases q';obtain⟨v,hv⟩:=CF;exact⟨v,by rw[xM];exact hv⟩
  ·refine(ok b u q).stay (λc v hc r=>k c v ?_ r) (λc r=>by rw[au (Ex c b r)];exact r) (λc xs r=>by rw[au (Hf c xs r)];exact r) λc o xs r=>by rw[au (λz=>by subst z;rw[r]at mu;exact mu)];exact r
   rcases hc with rfl|hc
   ·exact xM
   ·rintro rfl;rcases he with z|z
    ·exact Ex c b hc z
    ·rw[hc]at z;cases z;exact hb rfl
end
structure Un (fs ex:List Addr)(H H':Hp)(h h':Heap):Prop where
 keep:∀b o,h.get? b=some o->H b=none->b∉fs->b∉ex->h'.get? b=some o
 slot:∀b o,h.get? b=some o->H b=none->b∈fs->b∉ex->∃sl,h'.get? b=some { o with slots:=sl }
 free:∀b o,h.get? b=some o->H b=none->b∉ex->H' b=none
 there:∀b o,h.get? b=some o->b∉ex->∃o',h'.get? b=some o'
 tups:∀b xs,H b=some (.tup xs)->H' b=some (.tup xs)
 frzs:∀b o u,H b=some (.frz o u)->H' b=some (.frz o u)
 tbls:∀b q,H b=some (.tbl q)->H' b=some (.tbl q)
section
variable {fs KN ex Mu:List Addr}{H H1 H2:Hp}{h h1 h2 h':Heap}{a x e:Addr}{o:HO}
theorem Un.any (u:Un fs ex H H1 h h1)(q:h.get? b=some ob)(n:H b=none)(hx:b∉ex):∃sl,h1.get? b=some { ob with slots:=sl }:=by
 by_cases hb:b∈fs
 ·exact u.slot b ob q n hb hx
 ·exact⟨ob.slots,u.keep b ob q n hb hx⟩
theorem Un.trans (a:Un fs ex H H1 h h1)(b:Un fs ex H1 H2 h1 h2):Un fs ex H H2 h h2 where
 keep:=λc ob q n hc hx=>b.keep c ob (a.keep c ob q n hc hx) (a.free c ob q n hx) hc hx
 slot:=λc ob q n hc hx=>by
  obtain⟨sl,e1⟩:=a.slot c ob q n hc hx;obtain⟨Ey,e2⟩:=b.slot c _ e1 (a.free c ob q n hx) hc hx;exact⟨Ey,e2⟩
 free:=λc ob q n hx=>by
  obtain⟨o',e1⟩:=a.there c ob q hx;exact b.free c o' e1 (a.free c ob q n hx) hx
 there:=λc ob q hx=>by
  obtain⟨o',e1⟩:=a.there c ob q hx;exact b.there c o' e1 hx
 tups:=λc xs q=>b.tups c xs (a.tups c xs q)
 frzs:=λc ob xs q=>b.frzs c ob xs (a.frzs c ob xs q)
 tbls:=λc ps q=>b.tbls c ps (a.tbls c ps q)
theorem Un.kept (k:∀b u,h.get? b=some u->h'.get? b=some u):Un fs ex H H h h' :=
 ⟨λb ob q _ _ _=>k b ob q,λb ob q _ _ _=>⟨ob.slots,k b ob q⟩,λ_ _ _ n _=>n,λb ob q _=>⟨ob,k b ob q⟩,λ_ _ q=>q,λ_ _ _ q=>q,λ_ _ q=>q⟩
theorem Un.refl:Un fs ex H H h h:=Un.kept λ_ _ q=>q
theorem Un.laid (k:∀b u,h.get? b=some u->h'.get? b=some u)(hp:h.objs.size<=a)(hn:H a=none):Un fs ex H (upd H a o) h h' where
 keep:=λb u q _ _ _=>k b u q
 slot:=λb u q _ _ _=>⟨u.slots,k b u q⟩
 free:=λb u q n _=>by rw[au (vS (vQ (vX q) hp))];exact n
 there:=λb u q _=>⟨u,k b u q⟩
 tups:=λb xs q=>by rw[au (aP q hn)];exact q
 frzs:=λb u xs q=>by rw[au (aP q hn)];exact q
 tbls:=λb ps q=>by rw[au (aP q hn)];exact q
theorem Un.write (mu:F0 (H x))(he:e=x∨H e=some (.own x))(k:∀b u,b≠e->h.get? b=some u->h'.get? b=some u)(CF:∃u,h'.get? e=some u):Un fs ex H (upd H x o) h h':=by
 have hx:∀b,H b=none->b≠x:=λb n z=>by subst z;rw[n]at mu;exact mu
 have hb:∀b,H b=none->b≠e:=λb n z=>by
  subst z;rcases he with r|r
  ·exact hx b n r
  ·rw[n]at r;cases r
 have hm:∀b u,H b=some u->¬F0 (some u)->b≠x:=λb u q nm z=>by subst z;rw[q]at mu;exact nm mu
 refine⟨λb u q n _ _=>k b u (hb b n) q,λb u q n _ _=>⟨u.slots,k b u (hb b n) q⟩,λb u q n _=>by rw[au (hx b n)];exact n,λb u q _=>?_,
  λb xs q=>by rw[au (hm b _ q λz=>z)];exact q,λb u xs q=>by rw[au (hm b _ q λz=>z)];exact q,λb ps q=>by rw[au (hm b _ q λz=>z)];exact q⟩
 by_cases xM:b=e
 ·subst xM;exact CF
 ·exact⟨u,k b u xM q⟩
end
noncomputable def F4 (h:Heap)(H:Hp):List Addr:=(List.range h.objs.size).filter λa=>(H a).isSome
def oj (h:Heap)(H:Hp):Heap:=PySem.W.hideAll h (F4 h H)
theorem sV (h:Heap)(H:Hp):(oj h H).objs.size=h.objs.size:=PySem.W.hideAll_size _ _
theorem ke (e:h.get? b=some o)(n:H b=none):(oj h H).get? b=some o :=
 PySem.W.hideAll_get _ e λhm=>by
  have q:(H b).isSome=true:=(List.mem_filter.mp hm).2;rw[n]at q;simp at q
theorem xQ (e:(oj h H).get? b=some o):h.get? b=some o/\H b=none:=by
 have e':h.get? b=some o:=PySem.W.of_hideAll (F4 h H) e;refine⟨e',?_⟩;cases q:H b with
 |none=>rfl
 |some x=>
  have hm:b∈F4 h H:=List.mem_filter.mpr ⟨List.mem_range.mpr (vX e'),by simp[q]⟩;have z:(oj h H).get? b=none:=PySem.W.hideAll_none (F4 h H) hm;rw[z]at e;cases e
noncomputable def xR (g h:Heap)(L:Addr):List (Addr×Obj):=(List.range h.objs.size).filterMap λa=>if a=L∨(g.get? a).isSome=true then none else (h.get? a).map λo=>(a,o)
def ay (g h:Heap)(L d:Addr):List (Addr×Obj):=(xR g h L).filter λp=>decide (p.1≠d)
structure Mod (K:Frag)(mg:Str->Option Value)(base:Heap):Prop where
 kin:K.In base
 glob:base.Ns mainGlobals mg
 blt:∃mb,base.Ns builtinsNs mb/\∀x:Str,x ≠ "__name__"->mb x=bootBuiltins x
 nolimit:base.NoLimit
 bmain:∃bm ob,mg "__builtins__" = some (.ref bm)/\bm≠builtinsNs/\base.get? bm=some ob/\ob.cls=.type "module"/\ob.dict=some builtinsNs/\ob.data=.plain
structure Cx where
 prog:Program
 w:World
 K:Frag
 mg:Str->Option Value
 base:Heap
 A:Around
 N:List Str
 s₀:Shared
 H₀:Hp
 env:Env
 outer:List Env
 stack:List Env
 ex:List Addr
 fn:Str->Bool
 calm:Bool
 pn:List (Addr×Obj)
 xe:Value->Shared->Prop
noncomputable def lC (l:List Env):List Addr:=l.filterMap (·.frame)
abbrev Cx.fs (X:Cx):List Addr:=lC X.outer
def xS (sc:Scope)(x:Str):Prop:=sc.names.lookup x=some .local∨sc.names.lookup x=some .cell∨sc.names.lookup x=some .free
def zR (sc:Scope)(x:Str):Prop:=sc.names.lookup x=some .local∨sc.names.lookup x=some .cell
def Gs (env:Env)(h:Heap)(m:Str->Option Value)(x:Str)(u:Value):Prop :=
 (env.kindOf x=some .local/\m x=some u)∨((env.kindOf x=some .cell∨env.kindOf x=some .free)/\∃c,env.cells.lookup x=some c/\h.IsCell c (some u))
abbrev wq {α:Type}(X:Cx):Sem α->(α->Shared->Prop)->(Value->Shared->Prop)->Shared->Prop:=wpAny (model X.prog X.w) X.A
structure Cx.Ok (X:Cx):Prop where
 mod:Mod X.K X.mg X.base
 kind:X.env.scope.kind=.function
 glob:X.env.globals=mainGlobals
 blt:X.env.builtins=builtinsNs
 above:X.s₀.heap.objs.size<=X.env.locals
 inj:∀x y c,X.env.cells.lookup x=some c->X.env.cells.lookup y=some c->x=y
 has:∀x,(X.env.kindOf x=some .cell∨X.env.kindOf x=some .free)->∃c,X.env.cells.lookup x=some c
 cab:∀x c,X.fn x=true->X.env.cells.lookup x=some c->X.s₀.heap.objs.size<=c
 hd:X.calm=true->X.A.handled=none
 frames:X.A.frames=some X.stack
 stk:X.stack=X.outer∨(X.stack=X.env::X.outer/\X.env.frame=some X.env.locals)
 exf:∀b∈X.ex,b≠X.env.locals/\∀x c,X.env.cells.lookup x=some c->c≠b
 bs:∀b o,X.base.get? b=some o->X.s₀.heap.get? b=some o/\X.H₀ b=none
 bsz:X.base.objs.size<=X.s₀.heap.objs.size
 noex:∀b o,X.base.get? b=some o->b∉X.ex
 exfs:∀b∈X.ex,b∉X.fs
 funs:X.s₀.heap.FunFrames X.base X.outer
 frf:∀b∈X.fs,X.H₀ b=none
structure Inv (X:Cx)(ac:List (Addr×Obj))(σ:List (Option V))(H:Hp)(s:Shared):Prop where
 ok:X.Ok
 os:s.os=X.s₀.os
 bare:AllBare s.gens
 base:Un X.fs X.ex X.H₀ H X.s₀.heap s.heap
 loc:∃m,s.heap.Ns X.env.locals m/\∀(i:Nat)(x:Str)(v:V),X.N[i]? = some x->σ[i]? = some (some v)->xS X.env.scope x->∃u,aI v u/\Gs X.env s.heap m x u
 cell:∀x c,X.env.cells.lookup x=some c->∃v,s.heap.IsCell c v
 free:H X.env.locals=none
 freeC:∀x c,X.env.cells.lookup x=some c->H c=none
 pin:∀p∈X.pn++ac,s.heap.get? p.1=some p.2/\H p.1=none/\p.1≠X.env.locals/\p.1∉X.fs/\∀v,p.2.data≠.cell v
 hok:j0 X.prog X.w H s.heap
 len:σ.length=X.N.length
section
variable {X:Cx}{ac:List (Addr×Obj)}{σ:List (Option V)}{H H':Hp}{s:Shared}{h':Heap}
theorem Cx.Ok.nofr (ok:X.Ok)(e:X.base.get? b=some o):b∉X.fs:=λhb=>by
 have:=(ok.funs.mem hb).1;rw[e]at this;cases this
theorem Inv.bs (I:Inv X ac σ H s):∀b o,X.base.get? b=some o->s.heap.get? b=some o/\H b=none:=λb o e=>
 ⟨I.base.keep b o (I.ok.bs b o e).1 (I.ok.bs b o e).2 (I.ok.nofr e) (I.ok.noex b o e),I.base.free b o (I.ok.bs b o e).1 (I.ok.bs b o e).2 (I.ok.noex b o e)⟩
theorem Inv.bk (I:Inv X ac σ H s):∀b o,X.base.get? b=some o->s.heap.get? b=some o:=λb o e=>(I.bs b o e).1
theorem Inv.mod (I:Inv X ac σ H s):Mod X.K X.mg X.base:=I.ok.mod
theorem Inv.kIn (I:Inv X ac σ H s):X.K.In s.heap:=I.ok.mod.kin.keeps I.bk
theorem Inv.fr (I:Inv X ac σ H s):∃m,Fr X.base X.env.locals s.heap m :=
 let ⟨m,hn,_⟩:=I.loc
 ⟨m,hn,I.bk,vR I.ok.bsz I.ok.above⟩
theorem Inv.lt (I:Inv X ac σ H s):X.env.locals<s.heap.objs.size:=let ⟨_,hn,_⟩:=I.loc;hn.lt
theorem Inv.sz (I:Inv X ac σ H s):X.s₀.heap.objs.size<=s.heap.objs.size:=vR I.ok.above (Nat.le_of_lt I.lt)
theorem Inv.nofs (I:Inv X ac σ H s)(h:s.heap.objs.size<=a):a∉X.fs:=λhb=>by
 obtain⟨_,o,ho,_⟩:=I.ok.funs.mem hb;exact absurd (vQ (vX ho) (vR I.sz h)) (Nat.lt_irrefl _)
theorem Inv.cne (I:Inv X ac σ H s):∀x c,X.env.cells.lookup x=some c->c≠X.env.locals:=λx c e z=>by
 obtain⟨v,o,ho,hd⟩:=I.cell x c e;obtain⟨m,⟨o',es,ep,og,FK,_⟩,_⟩:=I.loc;rw[z,og]at ho;cases ho;rw[FK]at hd;cases hd
theorem Inv.funs (I:Inv X ac σ H s):s.heap.FunFrames X.base X.outer:=by
 have all:∀(l:List Env),(∀b∈lC l,b∈X.fs)->X.s₀.heap.FunFrames X.base l->s.heap.FunFrames X.base l:=by
  intro l;induction l with
  |nil=>intro _ _;trivial
  |cons env r ih=>
   intro hs hl;obtain⟨hk,⟨L,o,hf,hn,ho,hd⟩,hr⟩:=hl;have hL:L∈X.fs:=hs L (by unfold lC;rw[List.filterMap_cons,hf];exact mX);obtain⟨sl,e⟩:=I.base.slot L o ho (I.ok.frf L hL) hL λz=>I.ok.exfs L z hL;exact⟨hk,⟨L,_,hf,hn,e,hd⟩,ih (λb hb=>hs b (by unfold lC;rw[List.filterMap_cons,hf];exact mZ _ hb)) hr⟩
 exact all X.outer (λ_ hb=>hb) I.ok.funs
theorem Inv.stack (I:Inv X ac σ H s):s.heap.FunFrames X.base X.stack:=by
 rcases I.ok.stk with e|⟨e,hf⟩
 ·rw[e];exact I.funs
 ·rw[e];obtain⟨m,hn,_⟩:=I.loc;refine .cons (by rw[I.ok.kind];decide) hf hn ?_ I.funs;exact Heap.get?_none_of_le (vR I.ok.bsz I.ok.above)
theorem Inv.stkSub (I:Inv X ac σ H s):∀b∈lC X.stack,b∈X.env.locals::X.fs:=λb hb=>by
 rcases I.ok.stk with e|⟨e,hf⟩
 ·rw[e]at hb;exact mZ _ hb
 ·rw[e]at hb;unfold lC at hb;rw[List.filterMap_cons,hf]at hb;exact hb
theorem Inv.stkFree (I:Inv X ac σ H s):∀b∈lC X.stack,H b=none:=λb hb=>by
 rcases vP (I.stkSub b hb)with e|hb
 ·rw[e];exact I.free
 ·obtain⟨_,o,ho,_⟩:=I.ok.funs.mem hb;exact I.base.free b o ho (I.ok.frf b hb) λz=>I.ok.exfs b z hb
theorem Inv.step {g':Array GenState}{t':Nat}{d':Drawn}{ch:List Addr}(I:Inv X ac σ H s)
  (uz:∀b∈ch,(b∈X.ex∨X.s₀.heap.objs.size<=b)/\b≠X.env.locals/\(∀x c,X.env.cells.lookup x=some c->c≠b)/\∀p∈X.pn++ac,p.1≠b)
  (keep:∀b o,b≠X.env.locals->b∉X.fs->b∉ch->s.heap.get? b=some o->H b=none->h'.get? b=some o)
  (slot:∀b o,b≠X.env.locals->b∈X.fs->b∉ch->s.heap.get? b=some o->H b=none->∃sl,h'.get? b=some { o with slots:=sl }) (free:∀b o,b∉ch->s.heap.get? b=some o->H b=none->H' b=none)
  (there:∀b o,b∉ch->s.heap.get? b=some o->∃o',h'.get? b=some o')
  (tups:∀b xs,H b=some (.tup xs)->H' b=some (.tup xs)) (frzs:∀b o u,H b=some (.frz o u)->H' b=some (.frz o u)) (tbls:∀b q,H b=some (.tbl q)->H' b=some (.tbl q))
  (ns:∀m,s.heap.Ns X.env.locals m->h'.Ns X.env.locals m) (hok:j0 X.prog X.w H' h') (hg:AllBare g'):
  Inv X ac σ H' { s with heap:=h',gens:=g',drawn:=d',toks:=t' }:=by
 have CG:∀b o,X.s₀.heap.get? b=some o->b≠X.env.locals:=λb o e=>vS (vQ (vX e) I.ok.above);have CH:∀b o,X.s₀.heap.get? b=some o->b∉X.ex->b∉ch:=λb o e hx hb=>by
  rcases (uz b hb).1 with z|z
  ·exact hx z
  ·exact absurd (vQ (vX e) z) (Nat.lt_irrefl _)
 have A5:∀x c,X.env.cells.lookup x=some c->∀v,s.heap.IsCell c v->h'.IsCell c v:=λx c e v ⟨o,ho,hd⟩=>by
  have Ez:c∉ch:=λz=>(uz c z).2.2.1 x c e rfl;by_cases hc:c∈X.fs
  ·obtain⟨sl,q⟩:=slot c o (I.cne x c e) hc Ez ho (I.freeC x c e);exact⟨_,q,hd⟩
  ·exact⟨o,keep c o (I.cne x c e) hc Ez ho (I.freeC x c e),hd⟩
 refine⟨I.ok,I.os,hg,⟨λb o e n hb hx=>?_,λb o e n hb hx=>?_,λb o e n hx=>?_,λb o e hx=>?_,λb xs e=>tups b xs (I.base.tups b xs e),λb o xs e=>frzs b o xs (I.base.frzs b o xs e),λb ps e=>?_⟩,?_,λx c e=>?_,?_,λx c e=>?_,λp hp=>?_,hok,I.len⟩
 ·exact keep b o (CG b o e) hb (CH b o e hx) (I.base.keep b o e n hb hx) (I.base.free b o e n hx)
 ·obtain⟨sl,e1⟩:=I.base.slot b o e n hb hx;obtain⟨Ey,e2⟩:=slot b _ (CG b o e) hb (CH b o e hx) e1 (I.base.free b o e n hx);exact⟨Ey,e2⟩
 ·obtain⟨o',e1⟩:=I.base.there b o e hx;exact free b o' (CH b o e hx) e1 (I.base.free b o e n hx)
 ·obtain⟨o',e1⟩:=I.base.there b o e hx;exact there b o' (CH b o e hx) e1
 ·exact tbls b _ (I.base.tbls b ps e)
 ·obtain⟨m,hn,hl⟩:=I.loc;refine⟨m,ns m hn,λi x v e1 e2 e3=>?_⟩;obtain⟨u,r,l⟩:=hl i x v e1 e2 e3;refine⟨u,r,?_⟩;rcases l with l|⟨k,c,e,z⟩
  ·exact .inl l
  ·exact .inr ⟨k,c,e,A5 x c e _ z⟩
 ·obtain⟨v,z⟩:=I.cell x c e;exact⟨v,A5 x c e v z⟩
 ·obtain⟨m,⟨o,_,_,ho,_⟩,_⟩:=I.loc;exact free _ o (λz=>(uz _ z).2.1 rfl) ho I.free
 ·obtain⟨v,o,ho,hd⟩:=I.cell x c e;exact free c o (λz=>(uz c z).2.2.1 x c e rfl) ho (I.freeC x c e)
 ·obtain⟨e,n,ne,nf,d⟩:=I.pin p hp;have Ez:p.1∉ch:=λz=>(uz p.1 z).2.2.2 p hp rfl;exact⟨keep p.1 p.2 ne nf Ez e n,free p.1 p.2 Ez e n,ne,nf,d⟩
theorem Inv.un {t':Nat}(I:Inv X ac σ H s)(u:Un X.fs [] H H' s.heap h')(hok:j0 X.prog X.w H' h'):Inv X ac σ H' { s with heap:=h',toks:=t' }:=by
 obtain⟨m,⟨o,es,ep,ho,r⟩,_⟩:=id I.loc;obtain⟨sl,hL⟩:=u.any ho I.free (by simp);exact I.step (g':=s.gens) (d':=s.drawn) (ch:=[]) (λ_ z=>nomatch z) (λb o _ hb _ e n=>u.keep b o e n hb (by simp)) (λb o _ hb _ e n=>u.slot b o e n hb (by simp)) (λb o _ e n=>u.free b o e n (by simp)) (λb o _ e=>u.there b o e (by simp)) u.tups u.frzs u.tbls (λm' hm=>by
  obtain⟨o',oh,FL,og,r'⟩:=hm;rw[ho]at og;cases og;exact⟨_,oh,FL,hL,r'⟩) hok I.bare
theorem Inv.call {g':Array GenState}{t':Nat}{d':Drawn}{ch:List Addr}(I:Inv X ac σ H s)(u:Un (lC X.stack) ch H H' s.heap h')(hok:j0 X.prog X.w H' h')(hg:AllBare g')
  (uz:∀b∈ch,(b∈X.ex∨X.s₀.heap.objs.size<=b)/\b≠X.env.locals/\(∀x c,X.env.cells.lookup x=some c->c≠b)/\∀p∈X.pn++ac,p.1≠b):
  Inv X ac σ H' { s with heap:=h',gens:=g',drawn:=d',toks:=t' }:=by
 obtain⟨m,⟨o,es,ep,ho,r⟩,_⟩:=id I.loc;obtain⟨sl,hL⟩:=u.any ho I.free λz=>(uz _ z).2.1 rfl;exact I.step (ch:=ch) uz (λb o hL hb hc e n=>u.keep b o e n (λz=>(vP (I.stkSub b z)).elim hL hb) hc) (λb o _ _ hc e n=>u.any e n hc) (λb o hc e n=>u.free b o e n hc) (λb o hc e=>u.there b o e hc) u.tups u.frzs u.tbls (λm' hm=>by
  obtain⟨o',oh,FL,og,r'⟩:=hm;rw[ho]at og;cases og;exact⟨_,oh,FL,hL,r'⟩) hok hg
theorem Inv.turned {t':Nat}{it:Addr}(I:Inv X ac σ H s)(k:∀b o,b≠it->s.heap.get? b=some o->h'.get? b=some o)(hn:H it=none)(hL:it≠X.env.locals)
  (h1:it∈X.ex∨X.s₀.heap.objs.size<=it) (h2:∀x c,X.env.cells.lookup x=some c->c≠it) (h3:∀p∈X.pn++ac,p.1≠it):Inv X ac σ H { s with heap:=h',toks:=t' }:=by
 have A6:∀b u,H b=some u->b≠it:=λb u e z=>by rw[z,hn]at e;cases e
 refine I.step (g':=s.gens) (d':=s.drawn) (ch:=[it]) (λb hb=>?_) (λb o _ _ hc e _=>k b o (λz=>hc (by simp[z])) e) (λb o _ _ hc e _=>⟨o.slots,k b o (λz=>hc (by simp[z])) e⟩) (λ_ _ _ _ n=>n)
  (λb o hc e=>⟨o,k b o (λz=>hc (by simp[z])) e⟩) (λ_ _ e=>e) (λ_ _ _ e=>e) (λ_ _ e=>e) (λm hm=>?_) (λb u e=>?_) I.bare
 ·have e:b=it:=by simpa using hb
  subst e;exact⟨h1,hL,h2,h3⟩
 ·obtain⟨o,es,ep,ho,r⟩:=hm;exact⟨o,es,ep,k _ o (Ne.symm hL) ho,r⟩
 ·refine(I.hok b u e).stay (λc v hc q=>k c v ?_ q) (λ_ q=>q) (λ_ _ q=>q) λ_ _ _ q=>q;rcases hc with z|z
  ·rw[z];exact A6 b u e
  ·exact A6 c _ z
theorem Inv.tok (I:Inv X ac σ H s)(t:Nat):Inv X ac σ H { s with toks:=t }:=I.un (h':=s.heap) (t':=t) Un.refl I.hok
theorem Inv.kept (I:Inv X ac σ H s)(k:∀b u,s.heap.get? b=some u->h'.get? b=some u):Inv X ac σ H { s with heap:=h',toks:=t' }:=I.un (Un.kept k) (I.hok.kept k)
theorem Inv.laid (I:Inv X ac σ H s)(k:∀b u,s.heap.get? b=some u->h'.get? b=some u)(hp:s.heap.objs.size<=a)(new:bC X.prog X.w (upd H a o) h' a o):
  Inv X ac σ (upd H a o) { s with heap:=h',toks:=t' }:=I.un (Un.laid k hp (I.hok.fresh hp)) (I.hok.laid k hp new)
theorem Inv.write (I:Inv X ac σ H s)(mu:F0 (H x))(he:e=x∨H e=some (.own x))(k:∀b u,b≠e->s.heap.get? b=some u->h'.get? b=some u)(CF:∃u,h'.get? e=some u)
  (new:bC X.prog X.w (upd H x o) h' x o):Inv X ac σ (upd H x o) { s with heap:=h',toks:=t' }:=I.un (Un.write mu he k CF) (I.hok.write mu he k CF new)
theorem Inv.pins_of (I:Inv X ac σ H s)(h:∀p∈pins',s.heap.get? p.1=some p.2/\H p.1=none/\p.1≠X.env.locals/\p.1∉X.fs/\∀v,p.2.data≠.cell v):Inv X pins' σ H s :=
 ⟨I.ok,I.os,I.bare,I.base,I.loc,I.cell,I.free,I.freeC,λp hp=>(List.mem_append.mp hp).elim (λz=>I.pin p (List.mem_append_left _ z)) (h p),I.hok,I.len⟩
theorem iD {N:List Str}(hN:N.Nodup){i j:Nat}{x:Str}(a:N[i]? = some x)(b:N[j]? = some x):i=j:=by
 obtain⟨h1,e1⟩:=vV a;obtain⟨h2,e2⟩:=vV b;exact(List.getElem_inj hN).mp (e1.trans e2.symm)
theorem lU {M:Model}{A:Around}{E:Value->Shared->Prop}{i:Nat}{x:Str}{v:V}{u:Value}{Q:Unit->Shared->Prop}(I:Inv X ac σ H s)(hN:X.N.Nodup)(hi:X.N[i]? = some x)(hx:zR X.env.scope x)(r:aI v u)
  (h:∀s',Inv X ac (σ.set i (some v)) H s'->(∃a,Heap.SameBut a s.heap s'.heap/\(a=X.env.locals∨X.env.cells.lookup x=some a))->Q () s') (hf:X.fn x=true∨X.env.scope.names.lookup x=some .local:=by first|exact .inl rfl|exact .inr rfl|assumption):wpAny M A (storeName X.env x u) Q E s:=by
 obtain⟨m,hn,hl⟩:=id I.loc;have Hg:(X.env.scope.kind == .class || (X.env.scope.kind == .module && X.env.locals != X.env.globals))=false:=by rw[I.ok.kind];rfl
 have ur:i<σ.length:=by rw[I.len];exact(vV hi).1
 have cne:=I.cne;have sO:∀ {a:Addr}{h':Heap},(∃o,s.heap.get? a=some o/\H a=none)->Heap.SameBut a s.heap h'->j0 X.prog X.w H h':=λ{a h'} ha hs b ob e=>by
  obtain⟨_,_,A7⟩:=ha;refine(I.hok b ob e).stay (λc w' hc q=>(hs.2 c ?_).trans q) (λ_ q=>q) (λ_ _ q=>q) λ_ _ _ q=>q;rintro rfl;rcases hc with rfl|hc
  ·rw[A7]at e;cases e
  ·rw[A7]at hc;cases hc
 rcases hx with hk|hk
 ·refine wpAny_storeName_local hk hn (λh' CJ hs=>?_) Hg;obtain⟨oL,_,_,E4,_⟩:=id hn;refine h _ ⟨I.ok,I.os,I.bare,⟨λb o e n hb hx=>?_,λb o e n hb hx=>?_,I.base.free,λb o e hx=>?_,I.base.tups,I.base.frzs,I.base.tbls⟩,⟨_,CJ,λj y v' e1 e2 e3=>?_⟩,λy c e=>?_,I.free,I.freeC,λp hp=>?_,sO ⟨oL,E4,I.free⟩ hs,by simpa using I.len⟩ ⟨_,hs,.inl rfl⟩
  ·exact(hs.2 b (vS (vQ (vX e) I.ok.above))).trans (I.base.keep b o e n hb hx)
  ·obtain⟨sl,e1⟩:=I.base.slot b o e n hb hx;exact⟨sl,(hs.2 b (vS (vQ (vX e) I.ok.above))).trans e1⟩
  ·obtain⟨o',e1⟩:=I.base.there b o e hx;exact⟨o',(hs.2 b (vS (vQ (vX e) I.ok.above))).trans e1⟩
  ·by_cases hj:j=i
   ·subst hj;rw[hi]at e1;cases e1;rw[List.getElem?_set_self ur]at e2;cases e2
    exact⟨u,r,.inl ⟨hk,by simp⟩⟩
   ·rw[vB (Ne.symm hj)]at e2;obtain⟨u',r',q⟩:=hl j y v' e1 e2 e3;refine⟨u',r',?_⟩;rcases q with⟨k,e⟩|⟨k,c,e,z⟩
    ·refine .inl ⟨k,?_⟩;have:y≠x:=λe=>hj (iD hN e1 (e ▸ hi));simp[this,e]
    ·exact .inr ⟨k,c,e,z.sameBut hs (cne y c e)⟩
  ·obtain⟨w',z⟩:=I.cell y c e;exact⟨w',z.sameBut hs (cne y c e)⟩
  ·obtain⟨e,n,ne,nf,d⟩:=I.pin p hp;exact⟨(hs.2 p.1 ne).trans e,n,ne,nf,d⟩
 ·have z0:X.fn x=true:=by
   rcases hf with z|z
   ·exact z
   ·rw[z]at hk;cases hk
  obtain⟨c,hc⟩:=I.ok.has x (.inl hk);obtain⟨w',z⟩:=I.cell x c hc;refine wpAny_storeName_cell I.ok.kind hk hc z (λh' FM hs=>?_);obtain⟨oc,IT,Hh⟩:=id z;refine h { s with heap:=h' } ⟨I.ok,I.os,I.bare,⟨λb o e n hb hx=>?_,λb o e n hb hx=>?_,I.base.free,λb o e hx=>?_,I.base.tups,I.base.frzs,I.base.tbls⟩,⟨m,hn.sameBut hs (Ne.symm (cne x c hc)),λj y v' e1 e2 e3=>?_⟩,λy c' e=>?_,I.free,I.freeC,λp hp=>?_,sO ⟨oc,IT,I.freeC x c hc⟩ hs,by simpa using I.len⟩ ⟨c,hs,.inr hc⟩
  ·exact(hs.2 b (vS (vQ (vX e) (I.ok.cab x c z0 hc)))).trans (I.base.keep b o e n hb hx)
  ·obtain⟨sl,e1⟩:=I.base.slot b o e n hb hx;exact⟨sl,(hs.2 b (vS (vQ (vX e) (I.ok.cab x c z0 hc)))).trans e1⟩
  ·obtain⟨o',e1⟩:=I.base.there b o e hx;exact⟨o',(hs.2 b (vS (vQ (vX e) (I.ok.cab x c z0 hc)))).trans e1⟩
  ·by_cases hj:j=i
   ·subst hj;rw[hi]at e1;cases e1;rw[List.getElem?_set_self ur]at e2;cases e2
    exact⟨u,r,.inr ⟨.inl hk,c,hc,FM⟩⟩
   ·rw[vB (Ne.symm hj)]at e2;obtain⟨u',r',q⟩:=hl j y v' e1 e2 e3;refine⟨u',r',?_⟩;rcases q with q|⟨k,c',e,z'⟩
    ·exact .inl q
    ·refine .inr ⟨k,c',e,z'.sameBut hs ?_⟩;rintro rfl;exact hj (iD hN e1 (I.ok.inj _ _ _ e hc ▸ hi))
  ·by_cases hcc:c'=c
   ·subst hcc;exact⟨_,FM⟩
   ·obtain⟨w2,z2⟩:=I.cell y c' e;exact⟨w2,z2.sameBut hs hcc⟩
  ·obtain⟨e,n,ne,nf,d⟩:=I.pin p hp;refine⟨(hs.2 p.1 ?_).trans e,n,ne,nf,d⟩;intro q;rw[q,IT]at e;have q':oc=p.2:=vJ e;exact d w' (by rw[←q'];exact Hh)
theorem kg {M:Model}{A:Around}{E:Value->Shared->Prop}{i:Nat}{x:Str}{v:V}{u:Value}{Q:Unit->Shared->Prop}(I:Inv X ac σ H s)(hN:X.N.Nodup)(hi:X.N[i]? = some x)(hx:zR X.env.scope x)(r:aI v u)
  (h:∀s',Inv X ac (σ.set i (some v)) H s'->Q () s') (hf:X.fn x=true∨X.env.scope.names.lookup x=some .local:=by first|exact .inl rfl|exact .inr rfl|assumption):wpAny M A (storeName X.env x u) Q E s :=
 lU I hN hi hx r (λs' I' _=>h s' I') hf
theorem Inv.call' (I:Inv X ac σ H s)(ho:s'.os=s.os)(u:Un (lC X.stack) ch H H' s.heap s'.heap)(hok:j0 X.prog X.w H' s'.heap)(hg:AllBare s'.gens)
  (uz:∀b∈ch,(b∈X.ex∨X.s₀.heap.objs.size<=b)/\b≠X.env.locals/\(∀x c,X.env.cells.lookup x=some c->c≠b)/\∀p∈X.pn++ac,p.1≠b):Inv X ac σ H' s':=by
 obtain⟨h',g',d',t',o'⟩:=s';have e:o'=s.os:=ho;subst e;exact I.call (g':=g') (t':=t') (d':=d') u hok hg uz
end
abbrev XK:=Value->Option Addr->Hp->Prop
abbrev St:=List (Option V)
abbrev VK:=V->Hp->Prop
abbrev TE:=St->Hp->VK->Prop
abbrev TT:=St->Hp->(Bool->Hp->Prop)->Prop
abbrev TA:=St->Hp->(List V->Hp->Prop)->Prop
structure Ends where
 nx:St->Hp->Prop
 rt:VK
 bk:St->Hp->Prop:=λ_ _=>False
 ct:St->Hp->Prop:=λ_ _=>False
abbrev TS:=Ends->St->Hp->Prop
def EP (X:Cx)(ac:List (Addr×Obj))(σ:St)(Q:VK)(u:Value)(s':Shared):Prop:=∃v H',Inv X ac σ H' s'/\aI v u/\Q v H'
def TP (X:Cx)(ac:List (Addr×Obj))(σ:St)(Q:Bool->Hp->Prop)(b:Bool)(s':Shared):Prop:=∃H',Inv X ac σ H' s'/\Q b H'
def AP (X:Cx)(ac:List (Addr×Obj))(σ:St)(Q:List V->Hp->Prop)(us:List Value)(s':Shared):Prop:=∃vs H',Inv X ac σ H' s'/\aT vs us/\Q vs H'
def SP (X:Cx)(ac:List (Addr×Obj))(D:Ends)(f:Flow)(s':Shared):Prop :=
 match f with
 |.next=>∃σ' H',Inv X ac σ' H' s'/\D.nx σ' H'
 |.brk=>∃σ' H',Inv X ac σ' H' s'/\D.bk σ' H'
 |.cont=>∃σ' H',Inv X ac σ' H' s'/\D.ct σ' H'
 |.ret u=>∃v σ' H',Inv X ac σ' H' s'/\aI v u/\D.rt v H'
def PE (X:Cx)(e:Expr)(t:TE):Prop :=
 ∀(ac:List (Addr×Obj))(s:Shared)(σ:St)(H:Hp)(Q:VK),Inv X ac σ H s->t σ H Q->wq X (eval e X.env) (EP X ac σ Q) X.xe s
def PT (X:Cx)(e:Expr)(t:TT):Prop :=
 ∀(ac:List (Addr×Obj))(s:Shared)(σ:St)(H:Hp)(Q:Bool->Hp->Prop),Inv X ac σ H s->t σ H Q->wq X (isTrue e X.env (eval e X.env)) (TP X ac σ Q) X.xe s
def PW (X:Cx)(e:Expr)(t:TT):Prop :=
 ∀(ib:Sem Value)(ac:List (Addr×Obj))(s:Shared)(σ:St)(H:Hp)(Q:Bool->Hp->Prop),Inv X ac σ H s->t σ H Q->wq X (isTrue e X.env ib) (TP X ac σ Q) X.xe s
theorem PW.pt (h:PW X e t):PT X e t:=h _
def PA (X:Cx)(es:List Expr)(t:TA):Prop :=
 ∀(pos:Pos)(ac:List (Addr×Obj))(s:Shared)(σ:St)(H:Hp)(Q:List V->Hp->Prop),Inv X ac σ H s->t σ H Q->wq X (spliced (backTo pos (starEach es X.env))) (AP X ac σ Q) X.xe s
def PS (X:Cx)(st:Stmt)(t:TS):Prop :=
 ∀(ac:List (Addr×Obj))(s:Shared)(σ:St)(H:Hp)(D:Ends),Inv X ac σ H s->t D σ H->wq X (exec st X.env) (SP X ac D) X.xe s
def kh (X:Cx)(st:List Stmt)(t:TS):Prop :=
 ∀(ac:List (Addr×Obj))(s:Shared)(σ:St)(H:Hp)(D:Ends),Inv X ac σ H s->t D σ H->wq X (execs st X.env) (SP X ac D) X.xe s
theorem bX {α:Type}{t:Sem α}{Q Q':α->Shared->Prop}{M:Model}{A:Around}{E:Value->Shared->Prop}{s:Shared}(h:wpAny M A t Q E s)(hQ:∀a s,Q a s->Q' a s):wpAny M A t Q' E s:=wpAny_mono h hQ λ_ _ x=>x
section
variable {X:Cx}
theorem Kg {a b:Expr}{ta tb:TE}(ha:PE X a ta)(hb:PE X b tb){ac:List (Addr×Obj)}{s:Shared}{σ:St}{H:Hp}{R:V->V->Hp->Prop}(I:Inv X ac σ H s)(h:ta σ H λx H1=>tb σ H1 λy H2=>R x y H2)
  {α:Type}{Q:α->Shared->Prop}{f:Value->Value->Sem α}
  (hf:∀v u s2 x y H2,Inv X ac σ H2 s2->aI x v->aI y u->R x y H2->wq X (f v u) Q X.xe s2):
  wq X (eval a X.env) (λv s₁=>wq X (eval b X.env) (λu s₂=>wq X (f v u) Q X.xe s₂) X.xe s₁) X.xe s:=by
 refine bX (ha ac s σ H _ I h) λv s1 ⟨x,H1,I1,r1,q1⟩=>?_;refine bX (hb ac s1 σ H1 _ I1 q1) λu s2 ⟨y,H2,I2,r2,q2⟩=>?_;exact hf v u s2 x y H2 I2 r1 r2 q2
def om (i:Nat):TE:=λσ H Q=>∃v,σ[i]? = some (some v)/\Q v H
def tC (v:V):TE:=λ_ H Q=>Q v H
theorem cf (hN:X.N[i]? = some x)(hv:xS X.env.scope x)(hd:(x == ("__debug__" : Str))=false:=by decide)(gq:(x == ("__classdict__" : Str))=false:=by decide):PE X (.Name x pos) (om i):=by
 intro ac s σ H Q I h;obtain⟨v,e,h⟩:=h;obtain⟨m,hn,hl⟩:=I.loc;obtain⟨u,r,l⟩:=hl i x v hN e hv;have g0:EP X ac σ Q u s:=⟨v,H,I,r,h⟩;rcases l with⟨hk,hm⟩|⟨hk,c,hc,A8⟩
 ·exact wpAny_Name (wpAny_loadName_local I.ok.kind hk hn hm g0) hd
 ·rcases hk with hk|hk
  ·exact wpAny_Name (wpAny_loadName_cell I.ok.kind hk hc A8 g0) hd
  ·exact wpAny_Name (wpAny_loadName_free I.ok.kind hk hc A8 g0 gq) hd
theorem AM {i j pos}:PE X (.Constant (.int i) j pos) (tC (.int i)):=λ_ _ _ H _ I h=>wpAny_Constant_int ⟨.int i,H,I.tok _,⟨_,rfl⟩,h⟩
theorem u8 {b j pos}:PE X (.Constant (.bool b) j pos) (tC (.bl b)):=λ_ _ _ H _ I h=>Constant_bool ⟨.bl b,H,I,rfl,h⟩
theorem u9 {j pos}:PE X (.Constant .none j pos) (tC .non):=λ_ _ _ H _ I h=>Constant_none ⟨.non,H,I,rfl,h⟩
theorem AN {x j pos}:PE X (.Constant (.str x) j pos) (tC (.str x)):=λ_ _ _ H _ I h=>Calls.Constant_str ⟨.str x,H,I.tok _,⟨_,rfl⟩,h⟩
def Gl (X:Cx)(x:Str):Prop:=X.env.kindOf x=some .globalImplicit
theorem iE {E:Value->Shared->Prop}{ac:List (Addr×Obj)}{s:Shared}{σ:St}{H:Hp}{x:Str}{u:Value}{pos:Pos}{Q:Value->Shared->Prop}(I:Inv X ac σ H s)(hg:Gl X x)(hm:X.mg x=some u)(h:Q u s)
  (hd:(x == ("__debug__" : Str))=false:=by decide):wq X (eval (.Name x pos) X.env) Q E s :=
 Calls.Name_function_global I.ok.kind hg (Calls.loadGlobal_global (by rw[I.ok.glob];exact I.mod.glob.keeps I.bk) hm h) hd
theorem g6 {E:Value->Shared->Prop}{ac:List (Addr×Obj)}{s:Shared}{σ:St}{H:Hp}{x:Str}{u:Value}{pos:Pos}{Q:Value->Shared->Prop}(I:Inv X ac σ H s)(hg:Gl X x)(hm:X.mg x=none)(hv:bootBuiltins x=some u)(h:Q u s)
  (hn:x ≠ "__name__":=by decide) (hd:(x == ("__debug__" : Str))=false:=by decide):wq X (eval (.Name x pos) X.env) Q E s:=by
 obtain⟨mb,h1,h2⟩:=I.mod.blt;exact Calls.Name_function_global I.ok.kind hg (Calls.loadGlobal_builtin (by rw[I.ok.glob];exact I.mod.glob.keeps I.bk) hm (by rw[I.ok.blt];exact h1.keeps I.bk) ((h2 x hn).trans hv) h) hd
theorem dW (hg:Gl X x)(hm:X.mg x=some u)(r:aI v u)(hd:(x == ("__debug__" : Str))=false:=by decide):PE X (.Name x pos) (tC v) :=
 λ_ _ _ H _ I h=>iE I hg hm ⟨v,H,I,r,h⟩ hd
theorem jV (hg:Gl X x)(hm:X.mg x=none)(hv:bootBuiltins x=some u)(r:aI v u)(hn:x ≠ "__name__":=by decide)(hd:(x == ("__debug__" : Str))=false:=by decide):PE X (.Name x pos) (tC v) :=
 λ_ _ _ H _ I h=>g6 I hg hm hv ⟨v,H,I,r,h⟩ hn hd
def Kh (ta tb:TE)(k:Int->Int->Hp->Prop):St->Hp->Prop:=λσ H=>ta σ H λx H1=>tb σ H1 λy H2=>∃i j,x=.int i/\y=.int j/\k i j H2
variable {a b:Expr}{ta tb:TE}{pos:Pos}
def PC (X:Cx)(op:CmpOp)(a b:Expr)(t:TE):Prop :=
 ∀(ac:List (Addr×Obj))(s:Shared)(σ:St)(H:Hp)(Q:VK),Inv X ac σ H s->t σ H Q ->
  wq X (eval a X.env) (λv s₁=>wq X (eval b X.env) (λu s₂=>wq X (compareOp op v u) (EP X ac σ Q) X.xe s₂) X.xe s₁) X.xe s
theorem iF (b:Expr){op:CmpOp}(h:op≠.In)(h2:op≠.NotIn):behindInMarks op b=false:=by
 have e1:(op == CmpOp.In)=false:=by cases op<;>first|rfl|exact absurd rfl h
 have e2:(op == CmpOp.NotIn)=false:=by cases op<;>first|rfl|exact absurd rfl h2
 cases b<;>simp[behindInMarks,e1,e2]
def CZ (p:Int->Int->Bool)(ta tb:TE):TE:=λσ H Q=>Kh ta tb (λi j H2=>Q (.bl (p i j)) H2) σ H
abbrev Gu:TE->TE->TE:=CZ λi j=>decide (i=j)
theorem AO {op:CmpOp}{p:Int->Int->Bool}(ha:PE X a ta)(hb:PE X b tb)
  (rule:∀(i j:Int)(t u:Tok)(Q:Value->Shared->Prop)(s:Shared),Q (.bool (p i j)) s->wq X (compareOp op (.int i t) (.int j u)) Q X.xe s):PC X op a b (CZ p ta tb):=by
 intro ac s σ H Q I h;refine Kg ha hb I h λv u s2 x y H2 I2 rx ry q=>?_;obtain⟨i,j,rfl,rfl,q⟩:=q;obtain⟨t,rfl⟩:=rx;obtain⟨t',rfl⟩:=ry;exact rule i j t t' _ s2 ⟨.bl _,H2,I2,rfl,q⟩
theorem AQ (ha:PE X a ta)(hb:PE X b tb):PC X .Eq a b (Gu ta tb):=AO ha hb λ_ _ _ _ _ _ h=>eq_int (by rw[Bool.beq_eq_decide_eq];exact h)
def Gv (ta:TE):TE:=λσ H Q=>ta σ H λx H1=>Q (.bl (decide (x=.non))) H1
def zS (ta:TE):TE:=λσ H Q=>ta σ H λx H1=>Q (.bl (!decide (x=.non))) H1
theorem aI.none_iff (r:aI x v):(v == Value.none)=decide (x=.non):=by
 cases x with
 |non=>cases r;rfl
 |bl _=>cases r;rfl
 |int _=>obtain⟨t,rfl⟩:=r;rfl
 |str _=>obtain⟨t,rfl⟩:=r;rfl
 |byt _=>obtain⟨t,rfl⟩:=r;rfl
 |flt _=>obtain⟨t,rfl⟩:=r;rfl
 |ref _=>cases r;rfl
 |ty _=>cases r;rfl
theorem uA {j lR}(ha:PE X a ta):PC X .Is a (.Constant .none j lR) (Gv ta):=by
 intro ac s σ H Q I h;refine bX (ha ac s σ H _ I h) λv s1 ⟨x,H1,I1,r1,q1⟩=>?_;exact Constant_none (is_none_gen ⟨.bl _,H1,I1,by rw[r1.none_iff];rfl,q1⟩)
theorem xT {j lR}(ha:PE X a ta):PC X .IsNot a (.Constant .none j lR) (zS ta):=by
 intro ac s σ H Q I h;refine bX (ha ac s σ H _ I h) λv s1 ⟨x,H1,I1,r1,q1⟩=>?_;exact Constant_none (isnot_none_gen ⟨.bl _,H1,I1,by rw[r1.none_iff];rfl,q1⟩)
def tB (t:TE):TT:=λσ H Q=>t σ H λx H1=>∃c,x=.bl c/\Q c H1
theorem qg (h:PC X op a b t)(h1:behindInMarks op b=false:=by first|exact iF _ (by decide) (by decide)|rfl):PE X (.Compare a [op] [b] pos) t:=λac s σ H Q I hw=>wpAny_Compare1 (h ac s σ H Q I hw) h1
theorem AR {op:CmpOp}{t:TE}(h:PC X op a b t)(h1:behindInMarks op b=false:=by first|exact iF _ (by decide) (by decide)|rfl):PT X (.Compare a [op] [b] pos) (tB t):=by
 intro ac s σ H Q I hw;refine wpAny_isTrue_Compare1 (bX (h ac s σ H _ I hw) λv s1 h1=>bX h1 λu s2 h2=>bX h2 λc s3 ⟨x,H1,I1,r1,q1⟩=>?_) h1;obtain⟨d,rfl,q⟩:=q1;cases r1
 exact wpAny_truthy_bool ⟨H1,I1,q⟩
theorem qh {e:Expr}{t:TE}(h:PE X e t)(he:∀ib,isTrue e X.env ib=(do let v ←ib;standAt e.pos;holding [v] (truthy v)):=by intro _;rfl):PT X e (tB t):=by
 intro ac s σ H Q I hw;refine isTrue_plain (bX (h ac s σ H _ I hw) λv s1 ⟨x,H1,I1,r1,q1⟩=>?_) (he _);obtain⟨d,rfl,q⟩:=q1;cases r1
 exact wpAny_truthy_bool ⟨H1,I1,q⟩
variable {tA FN:TT}{ay:List Expr}
def Db (t u:TT):TT:=λσ H Q=>t σ H λc H1=>if c=true then u σ H1 Q else Q false H1
def Iu (t u:TT):TT:=λσ H Q=>t σ H λc H1=>if c=true then Q true H1 else u σ H1 Q
def Dc (t:TT):TT:=λσ H Q=>t σ H λc H1=>Q (!c) H1
theorem xU (ha:PT X a tA):PW X (.BoolOp .And [a] pos) tA:=by
 intro wh ac s σ H Q I h;refine isTrue_and (bX (ha ac s σ H Q I h) λc s1 e=>?_);cases c with
 |true=>exact isTrue_and_nil e
 |false=>exact e
theorem qi (ha:PT X a tA):PW X (.BoolOp .Or [a] pos) tA:=by
 intro wh ac s σ H Q I h;refine isTrue_or (bX (ha ac s σ H Q I h) λc s1 e=>?_);cases c with
 |false=>exact isTrue_or_nil e
 |true=>exact e
theorem AS (ha:PT X a tA)(hb:PW X (.BoolOp .And (b::ay) pos) FN):PW X (.BoolOp .And (a::b::ay) pos) (Db tA FN):=by
 intro wh ac s σ H Q I h;refine isTrue_and (bX (ha ac s σ H _ I h) λc s1 ⟨H1,I1,q1⟩=>?_);cases c with
 |true=>exact hb wh ac s1 σ H1 Q I1 q1
 |false=>exact⟨H1,I1,q1⟩
theorem oo (ha:PT X a tA)(hb:PW X (.BoolOp .Or (b::ay) pos) FN):PW X (.BoolOp .Or (a::b::ay) pos) (Iu tA FN):=by
 intro wh ac s σ H Q I h;refine isTrue_or (bX (ha ac s σ H _ I h) λc s1 ⟨H1,I1,q1⟩=>?_);cases c with
 |true=>exact⟨H1,I1,q1⟩
 |false=>exact hb wh ac s1 σ H1 Q I1 q1
theorem mN (ha:PT X a tA):PT X (.UnaryOp .Not a pos) (Dc tA):=by
 intro ac s σ H Q I h;exact isTrue_not (ha ac s σ H (λc H1=>Q (!c) H1) I h)
def zU (ta tb:TE):TE:=λσ H Q=>ta σ H λx H1=>∃c,x=.bl c/\if c=true then tb σ H1 Q else Q (.bl false) H1
def Gw (ta tb:TE):TE:=λσ H Q=>ta σ H λx H1=>∃c,x=.bl c/\if c=true then Q (.bl true) H1 else tb σ H1 Q
def De (ta:TE):TE:=λσ H Q=>ta σ H λx H1=>∃c,x=.bl c/\Q (.bl (!c)) H1
theorem qj {op}(h:PE X a t):PE X (.BoolOp op [a] pos) t:=λac s σ H Q I hw=>BoolOp_one (h ac s σ H Q I hw)
theorem mO (ha:PE X a ta)(hb:PE X (.BoolOp .And (b::ay) pos) tb):PE X (.BoolOp .And (a::b::ay) pos) (zU ta tb):=by
 intro ac s σ H Q I h;refine BoolOp_and (bX (ha ac s σ H _ I h) λv s1 ⟨x,H1,I1,r1,q1⟩=>?_);obtain⟨c,rfl,q1⟩:=q1;cases r1
 refine wpAny_truthy_bool ?_;cases c with
 |true=>exact hb ac s1 σ H1 Q I1 q1
 |false=>exact⟨.bl false,H1,I1,rfl,q1⟩
theorem Df (ha:PE X a ta)(hb:PE X (.BoolOp .Or (b::ay) pos) tb):PE X (.BoolOp .Or (a::b::ay) pos) (Gw ta tb):=by
 intro ac s σ H Q I h;refine BoolOp_or (bX (ha ac s σ H _ I h) λv s1 ⟨x,H1,I1,r1,q1⟩=>?_);obtain⟨c,rfl,q1⟩:=q1;cases r1
 refine wpAny_truthy_bool ?_;cases c with
 |false=>exact hb ac s1 σ H1 Q I1 q1
 |true=>exact⟨.bl true,H1,I1,rfl,q1⟩
theorem uB (ha:PE X a ta):PE X (.UnaryOp .Not a pos) (De ta):=by
 intro ac s σ H Q I h;refine UnaryOp_ (bX (ha ac s σ H _ I h) λv s1 ⟨x,H1,I1,r1,q1⟩=>?_);obtain⟨c,rfl,q1⟩:=q1;cases r1
 exact not_of (wpAny_truthy_bool ⟨.bl (!c),H1,I1,rfl,q1⟩)
end
def fZ (K:Frag)(H:Hp)(a:Addr)(xs:List V):Prop :=
 Rd H a (.lst xs) ∨
  ∃(o:Obj)(its:Array Value)(n:Nat),K.lookup a=some o/\o.cls=.type "list"/\o.dict=none/\o.data=.seq its n/\its.size<=sizeLine/\aT xs its.toList
def gb (K:Frag)(H:Hp)(a:Addr)(xs:List V):Prop :=
 Rd H a (.tup xs) ∨
  ∃(o:Obj)(its:Array Value)(n:Nat),K.lookup a=some o/\o.cls=.type "tuple"/\o.data=.seq its n/\its.size<=sizeLine/\aT xs its.toList
noncomputable def Gx:Value->Option V
 |.none=>some .non
 |.bool b=>some (.bl b)
 |.int i _=>some (.int i)
 |.str x _=>some (.str x)
 |.bytes b _=>some (.byt b)
 |.float b _=>some (.flt b)
 |.ref a=>some (.ref a)
 |.type n=>some (.ty n)
 |_=>none
theorem aI.abs (r:aI x u):Gx u=some x:=by
 cases x with
 |non=>cases r;rfl
 |bl _=>cases r;rfl
 |int _=>obtain⟨t,rfl⟩:=r;rfl
 |str _=>obtain⟨t,rfl⟩:=r;rfl
 |byt _=>obtain⟨t,rfl⟩:=r;rfl
 |flt _=>obtain⟨t,rfl⟩:=r;rfl
 |ref _=>cases r;rfl
 |ty _=>cases r;rfl
theorem aI.inj (r:aI x u)(q:aI y u):x=y:=vJ (r.abs.symm.trans q.abs)
theorem aT.inj:∀ {xs ys:List V}{us:List Value},aT xs us->aT ys us->xs=ys
 |_,_,_,.nil,.nil=>rfl
 |_,_,_,.cons r t,.cons r' t'=>by rw[r.inj r',aT.inj t t']
section
variable {X:Cx}{ac:List (Addr×Obj)}{σ:St}{H:Hp}{s:Shared}{a:Addr}{xs ys:List V}
theorem fZ.of {K:Frag}(h:H a=some (.lst xs)):fZ K H a xs:=.inl (.inl h)
theorem gb.of {K:Frag}(h:H a=some (.tup xs)):gb K H a xs:=.inl (.inl h)
theorem Inv.list (I:Inv X ac σ H s)(h:fZ X.K H a xs):∃its:List Value,aT xs its/\PlainL s.heap a its.toArray/\xs.length<=sizeLine:=by
 rcases h with h|⟨o,its,n,hk,hc,hd,hs,hz,r⟩
 ·obtain⟨z,its,n,r,e⟩:=h.ok I.hok;exact⟨its,r,⟨_,n,e,rfl,rfl,rfl⟩,z⟩
 ·refine⟨its.toList,r,⟨o,n,I.kIn a o hk,hc,hd,by simpa using hs⟩,?_⟩;have e:=r.length;simp only[vF]at e;omega
theorem Inv.tuple (I:Inv X ac σ H s)(h:gb X.K H a xs):∃its:List Value,aT xs its/\IsTup s.heap a its.toArray/\xs.length<=sizeLine:=by
 rcases h with h|⟨o,its,n,hk,hc,hs,hz,r⟩
 ·obtain⟨z,its,r,p⟩:=h.ok I.hok;exact⟨its,r,p,z⟩
 ·refine⟨its.toList,r,⟨o,I.kIn a o hk,hc,n,by simpa using hs⟩,?_⟩;have e:=r.length;simp only[vF]at e;omega
theorem Inv.list_inj (I:Inv X ac σ H s)(h:fZ X.K H a xs)(h':fZ X.K H a ys):xs=ys:=by
 obtain⟨its,r,⟨o,n,e,_,_,d⟩,_⟩:=I.list h;obtain⟨its',r',⟨o',n',e',_,_,d'⟩,_⟩:=I.list h';rw[e]at e';cases e';rw[d]at d';injection d' with d1 _;have:its=its':=by simpa using congrArg Array.toList d1
 subst this;exact r.inj r'
theorem Inv.tuple_inj (I:Inv X ac σ H s)(h:gb X.K H a xs)(h':gb X.K H a ys):xs=ys:=by
 obtain⟨its,r,⟨o,e,_,n,d⟩,_⟩:=I.tuple h;obtain⟨its',r',⟨o',e',_,n',d'⟩,_⟩:=I.tuple h';rw[e]at e';cases e';rw[d]at d';injection d' with d1 _;have:its=its':=by simpa using congrArg Array.toList d1
 subst this;exact r.inj r'
end
noncomputable abbrev Cx.wish (X:Cx)(E:Value->Shared->Prop):Cx:={ X with xe:=E }
noncomputable abbrev Cx.nox (X:Cx):Cx:=X.wish λ_ _=>False
theorem Cx.Ok.wish {X:Cx}(ok:X.Ok)(E:Value->Shared->Prop):(X.wish E).Ok :=
 ⟨ok.mod,ok.kind,ok.glob,ok.blt,ok.above,ok.inj,ok.has,ok.cab,ok.hd,ok.frames,ok.stk,ok.exf,ok.bs,ok.bsz,ok.noex,ok.exfs,ok.funs,ok.frf⟩
theorem Cx.Ok.unwish {X:Cx}{E:Value->Shared->Prop}(ok:(X.wish E).Ok):X.Ok :=
 ⟨ok.mod,ok.kind,ok.glob,ok.blt,ok.above,ok.inj,ok.has,ok.cab,ok.hd,ok.frames,ok.stk,ok.exf,ok.bs,ok.bsz,ok.noex,ok.exfs,ok.funs,ok.frf⟩
section
variable {X:Cx}{ac:List (Addr×Obj)}{σ:St}{H:Hp}{s:Shared}{E:Value->Shared->Prop}
theorem Inv.wish (I:Inv X ac σ H s)(E:Value->Shared->Prop):Inv (X.wish E) ac σ H s:=⟨I.ok.wish E,I.os,I.bare,I.base,I.loc,I.cell,I.free,I.freeC,I.pin,I.hok,I.len⟩
theorem Inv.unwish (I:Inv (X.wish E) ac σ H s):Inv X ac σ H s:=⟨I.ok.unwish,I.os,I.bare,I.base,I.loc,I.cell,I.free,I.freeC,I.pin,I.hok,I.len⟩
theorem SP.unwish (h:SP (X.wish E) ac D f s'):SP X ac D f s':=by
 cases f with
 |next=>obtain⟨σ',H',I,q⟩:=h;exact⟨σ',H',I.unwish,q⟩
 |brk=>obtain⟨σ',H',I,q⟩:=h;exact⟨σ',H',I.unwish,q⟩
 |cont=>obtain⟨σ',H',I,q⟩:=h;exact⟨σ',H',I.unwish,q⟩
 |ret u=>obtain⟨v,σ',H',I,r,q⟩:=h;exact⟨v,σ',H',I.unwish,r,q⟩
theorem PE.nox (h:PE X.nox e t):PE X e t:=λac s σ H Q I hw=>
 wpAny_mono (h ac s σ H Q (I.wish _) hw) (λ_ _ ⟨v,H',I',r,q⟩=>⟨v,H',I'.unwish,r,q⟩) λ_ _ z=>False.elim z
theorem PT.nox (h:PT X.nox e t):PT X e t:=λac s σ H Q I hw=>
 wpAny_mono (h ac s σ H Q (I.wish _) hw) (λ_ _ ⟨H',I',q⟩=>⟨H',I'.unwish,q⟩) λ_ _ z=>False.elim z
theorem kh.nox {st:List Stmt}{t:TS}(h:kh X.nox st t):kh X st t:=λac s σ H D I hw=>
 wpAny_mono (h ac s σ H D (I.wish _) hw) (λ_ _ q=>q.unwish) λ_ _ z=>False.elim z
end
section
variable {X:Cx}{st:Stmt}{ay:List Stmt}{t u:TS}{e:Expr}{te:TE}{pos:Pos}
def zV:TS:=λD σ H=>D.nx σ H
def Dg (t u:TS):TS:=λD σ H=>t { D with nx:=u D } σ H
theorem iG:kh X [] zV:=λ_ _ σ H _ I h=>wpAny_execs_nil ⟨σ,H,I,h⟩
theorem e8 (h1:PS X st t)(h2:kh X ay u):kh X (st::ay) (Dg t u):=by
 intro ac s σ H D I h;refine wpAny_execs_cons (bX (h1 ac s σ H { D with nx:=u D } I h) λf s1 q=>?_);cases f with
 |next=>
  obtain⟨σ',H',I',q⟩:=q;exact h2 ac s1 σ' H' D I' q
 |ret v=>exact q
 |brk=>exact q
 |cont=>exact q
theorem dE (h1:PS X st t):kh X [st] t:=by
 intro ac s σ H D I h;refine wpAny_execs_cons (bX (h1 ac s σ H D I h) λf s1 q=>?_);cases f with
 |next=>exact wpAny_execs_nil q
 |ret v=>exact q
 |brk=>exact q
 |cont=>exact q
theorem Inv.quiet (I:Inv X ac σ H s):interactive X.env=false:=by simp[interactive,I.ok.kind]
def Dh (te:TE):TS:=λD σ H=>te σ H λ_ H1=>D.nx σ H1
theorem r0 (he:PE X e te)(hs:swapsWith e none pos.line X.env=pure false:=by rfl):PS X (.Expr e pos) (Dh te):=by
 intro ac s σ H D I h;exact wpAny_Expr_any (bX (he ac s σ H _ I h) λv s1 ⟨x,H1,I1,r1,q1⟩=>⟨σ,H1,I1,q1⟩) I.quiet hs
def xV (te:TE):TS:=λD σ H=>te σ H D.rt
theorem ie (he:PE X e te):PS X (.Return (some e) pos) (xV te):=by
 intro ac s σ H D I h;exact wpAny_Return_some (bX (he ac s σ H _ I h) λv s1 ⟨x,H1,I1,r1,q1⟩=>⟨x,σ,H1,I1,r1,q1⟩)
def Di (c:TT)(t u:TS):TS:=λD σ H=>c σ H λb H1=>if b=true then t D σ H1 else u D σ H1
theorem lV {c:Expr}{a b:List Stmt}{tc:TT}(hc:PT X c tc)(ha:kh X a t)(hb:kh X b u):PS X (.If c a b pos) (Di tc t u):=by
 intro ac s σ H D I h;refine wpAny_If (bX (hc ac s σ H _ I h) λd s1 ⟨H1,I1,q1⟩=>?_);cases d with
 |true=>exact ha ac s1 σ H1 D I1 q1
 |false=>exact hb ac s1 σ H1 D I1 q1
end
abbrev TG:=V->St->Hp->(St->Hp->Prop)->Prop
abbrev zW:=List V->St->Hp->(St->Hp->Prop)->Prop
def PG (X:Cx)(lw:Expr)(t:TG):Prop :=
 ∀(ac:List (Addr×Obj))(s:Shared)(σ:St)(H:Hp)(v:V)(u:Value)(Q:St->Hp->Prop),Inv X ac σ H s->aI v u->t v σ H Q ->
  wq X (assign lw X.env u) (λ_ s'=>∃σ' H',Inv X ac σ' H' s'/\Q σ' H') X.xe s
def Dj (X:Cx)(ts:List Expr)(t:zW):Prop :=
 ∀(ac:List (Addr×Obj))(s:Shared)(σ:St)(H:Hp)(vs:List V)(us:List Value)(Q:St->Hp->Prop),Inv X ac σ H s->aT vs us->t vs σ H Q ->
  wq X (assignInOrder ((assignEach ts X.env).map (·.2)) us) (λ_ s'=>∃σ' H',Inv X ac σ' H' s'/\Q σ' H') X.xe s
section
variable {X:Cx}{pos:Pos}
def iH (i:Nat):TG:=λv σ H Q=>Q (σ.set i (some v)) H
theorem r6 (hN:X.N.Nodup)(hi:X.N[i]? = some x)(hx:zR X.env.scope x)(hf:X.fn x=true∨X.env.scope.names.lookup x=some .local:=by first|exact .inl rfl|exact .inr rfl|assumption):PG X (.Name x pos) (iH i):=by
 intro ac s σ H v u Q I r h;exact wpAny_assign_Name (kg I hN hi hx r (λs' I'=>⟨_,H,I',h⟩) hf)
def Dk:zW:=λvs σ H Q=>vs=[]/\Q σ H
def zX (t:TG)(u:zW):zW:=λvs σ H Q=>∃v r,vs=v::r/\t v σ H λσ' H'=>u r σ' H' Q
theorem mP:Dj X [] Dk:=by
 intro ac s σ H vs us Q I r h;obtain⟨e,h⟩:=h;subst e;cases r
 exact assignInOrder_nil ⟨σ,H,I,h⟩
theorem fH {e:Expr}{es:List Expr}{t:TG}{u:zW}(h1:PG X e t)(h2:Dj X es u)
  (hs:(assignEach (e::es) X.env).map (·.2)=assign e X.env::(assignEach es X.env).map (·.2):=by rfl):Dj X (e::es) (zX t u):=by
 intro ac s σ H vs us Q I r h;obtain⟨v,vr,e1,h⟩:=h;subst e1;cases r with
 |cons r rr=>
  rw[hs];refine assignInOrder_cons (bX (h1 ac s σ H _ _ _ I r h) λ_ s1 ⟨σ1,H1,I1,q1⟩=>?_);exact h2 ac s1 σ1 H1 _ _ Q I1 rr q1
def Dl (K:Frag)(n:Nat)(t:zW):TG:=λv σ H Q=>∃a xs,v=.ref a/\gb K H a xs/\xs.length=n/\t xs σ H Q
theorem uC (hc:X.calm=true)(h:Dj X es t)
  (hn:(assignEach es X.env).length=n:=by rfl) (jg:(assignEach es X.env).findIdx? (·.1)=none:=by rfl):PG X (.Tuple es k pos) (Dl X.K n t):=by
 intro ac s σ H v u Q I r hw;obtain⟨a,xs,e1,hq,hl,hw⟩:=hw;subst e1;cases r
 obtain⟨its,rv,ht,hz⟩:=I.tuple hq;refine assign_Tuple_tuple (I.ok.hd hc) ht (by simp[hn,←hl,rv.length]) jg λh' hx=>?_;have I1:Inv X ac σ H { s with heap:=h' }:=I.kept (t':=s.toks) λb o e=>hx b o (vS (vX e)) e;exact h ac _ σ H xs _ Q I1 (by simpa using rv) hw
def uD (te:TE)(g:TG):TS:=λD σ H=>te σ H λx H1=>g x σ H1 D.nx
theorem AT {tg e:Expr}{te:TE}{g:TG}(he:PE X e te)(hg:PG X tg g)(hs:swapsWithSole [tg] e pos.line X.env=pure false:=by rfl)(hw:swappedStores [tg] e X.env=pure none:=by rfl)
  (h1:(assignEach [tg] X.env).map (·.2)=[assign tg X.env]:=by rfl):PS X (.Assign [tg] e pos) (uD te g):=by
 intro ac s σ H D I h;refine wpAny_Assign_stores (bX (he ac s σ H _ I h) λv s1 ⟨x,H1,I1,r1,q1⟩=>?_) hs hw;rw[h1];exact bX (hg ac s1 σ H1 x v _ I1 r1 q1) λ_ s2 q=>q
theorem mQ {i:Nat}{x:Str}{e:Expr}{te:TE}{lR:Pos}(hN:X.N.Nodup)(hi:X.N[i]? = some x)(hx:zR X.env.scope x)(he:PE X e te)(hs:swapsWith e (some (.Name x lR)) pos.line X.env=pure false:=by rfl)(hf:X.fn x=true∨X.env.scope.names.lookup x=some .local:=by first|exact .inl rfl|exact .inr rfl|assumption):
  PS X (.Assign [.Name x lR] e pos) (uD te (iH i)):=by
 intro ac s σ H D I h;refine wpAny_Assign_Name (bX (he ac s σ H _ I h) λv s1 ⟨y,H1,I1,r1,q1⟩=>?_) hs;exact kg I1 hN hi hx r1 (λs2 I2=>⟨_,H1,I2,q1⟩) hf
end
structure It where
 go:Nat->Hp->Prop
 yld:Nat->Hp->V->Hp->Prop
 stop:Nat->Hp->Prop
def iI (X:Cx)(ac:List (Addr×Obj))(H:Hp)(b:Addr):Prop :=
 H b=none/\b≠X.env.locals/\b∉X.fs/\(b∈X.ex∨X.s₀.heap.objs.size<=b)/\(∀x c,X.env.cells.lookup x=some c->c≠b)/\∀p∈X.pn++ac,p.1≠b
theorem Inv.fpOk (I:Inv X ac σ H s)(hb:s.heap.objs.size<=b)(hn:H' b=none):iI X ac H' b:=by
 refine⟨hn,Nat.ne_of_gt (vQ I.lt hb),I.nofs hb,.inr (vR I.sz hb),λx c e z=>?_,λp hp z=>?_⟩
 ·obtain⟨v,q⟩:=I.cell x c e;exact absurd (vQ q.lt (by rw[z];exact hb)) (Nat.lt_irrefl _)
 ·exact absurd (vQ (vX (I.pin p hp).1) (by rw[z];exact hb)) (Nat.lt_irrefl _)
structure Turn (P:Program)(w:World)(K:Frag)(tg:Expr)(J:It)(fp:List Addr)(it:Addr)(tn:Nat->Heap->Prop):Prop where
 mem:it∈fp
 obj:∀i h,tn i h->∀b∈fp,∃o,h.get? b=some o/\∀v,o.data≠.cell v
 keep:∀i h h',tn i h->(∀b∈fp,∀o,h.get? b=some o->h'.get? b=some o)->tn i h'
 item:∀(X:Cx),X.prog=P->X.w=w->X.K=K->X.calm=true->∀(i:Nat)(ac:List (Addr×Obj))(s:Shared)(σ:St)(H:Hp)(E:Value->Shared->Prop),Inv X ac σ H s->(∀b∈fp,iI X ac H b)->tn i s.heap->J.go i H ->
  wpAny (model P w) X.A (pyNext (.ref it)) (λr s1=>∃u,r=some u /\
   wpAny (model P w) X.A (letOwnedTupleGo tg (.ref it) u) (λ_ s2=>∃x H',Inv X ac σ H' s2/\aI x u/\J.yld i H x H'/\tn (i+1) s2.heap/\∀b∈fp,H' b=none) E s1) E s
 done:∀(X:Cx),X.prog=P->X.w=w->X.K=K->X.calm=true->∀(i:Nat)(ac:List (Addr×Obj))(s:Shared)(σ:St)(H:Hp)(E:Value->Shared->Prop),Inv X ac σ H s->(∀b∈fp,iI X ac H b)->tn i s.heap->J.stop i H ->
  wpAny (model P w) X.A (pyNext (.ref it)) (λr s1=>r=none/\Inv X ac σ H s1) E s
 self:∀(A:Around)(i:Nat)(s:Shared)(Q:Value->Shared->Prop)(E:Value->Shared->Prop),tn i s.heap->Q (.ref it) s->wpAny (model P w) A (pyIter (.ref it)) Q E s
abbrev TI:=St->Hp->(It->Hp->Prop)->Prop
def Iv (X:Cx)(ac:List (Addr×Obj))(σ:St)(tg:Expr)(R:It->Hp->Prop)(FP:Value)(s2:Shared):Prop :=
 ∃(it:Addr)(fp:List Addr)(tn:Nat->Heap->Prop)(J:It)(H':Hp),FP=.ref it/\Inv X ac σ H' s2/\Turn X.prog X.w X.K tg J fp it tn/\tn 0 s2.heap/\(∀b∈fp,iI X ac H' b)/\R J H'
def PI (X:Cx)(tg bR:Expr)(wi:TI):Prop :=
 ∀(ac:List (Addr×Obj))(s:Shared)(σ:St)(H:Hp)(R:It->Hp->Prop),Inv X ac σ H s->wi σ H R ->
  wq X (eval bR X.env) (λv s1=>wq X (pyIter v) (Iv X ac σ tg R) X.xe s1) X.xe s
theorem oq (ho:s.heap.get? it=some o)(hc:o.cls=.type n)(hd:o.data=.fields vs)
    (hn:["enumerate","zip","dict_itemiterator","dict_reverseitemiterator","odict_iterator","itertools.zip_longest","itertools.pairwise"].contains n=false) (hQ:Q () s):wpAny M A (letOwnedTupleGo tg (.ref it) u) Q E s:=by
  unfold letOwnedTupleGo;cases tg<;>first
    |exact wY hQ
    | (cases u<;>first
        |exact wY hQ
        | (refine wX (wpAny_load ho ?_)
           rw[hc,hd]
           show wpAny M A (if(["enumerate","zip","dict_itemiterator","dict_reverseitemiterator","odict_iterator","itertools.zip_longest","itertools.pairwise"].contains n && vs[0]? == some (rawInt _))=true then _ else _) Q E s
           rw[if_neg (by intro h;rw[hn,Bool.false_and]at h;cases h)]
           exact wY hQ))
noncomputable def Iw (K:Frag)(a:Addr):It :=
 ⟨λi H=>∃xs x,fZ K H a xs/\xs[i]? = some x,λi H x H'=>H'=H/\∀xs,fZ K H a xs->xs[i]? = some x,λi H=>∃xs,fZ K H a xs/\xs.length<=i⟩
noncomputable def Ix (K:Frag)(a:Addr):It :=
 ⟨λi H=>∃xs x,gb K H a xs/\xs[i]? = some x,λi H x H'=>H'=H/\∀xs,gb K H a xs->xs[i]? = some x,λi H=>∃xs,gb K H a xs/\xs.length<=i⟩
noncomputable def Dm (lo:Int)(n:Nat):It:=⟨λi _=>i<n,λi H x H'=>H'=H/\x=.int (lo+i),λi _=>n<=i⟩
theorem sW {P:Program}{w:World}{K:Frag}{tg:Expr}(a it:Addr):Turn P w K tg (Iw K a) [it] it (λi h=>h.IsListIter it a i) where
 mem:=by simp
 obj:=λi h st b hb=>by
  have e:b=it:=by simpa using hb
  subst e;obtain⟨o,e,c,d⟩:=st;exact⟨o,e,λv z=>by rw[d]at z;cases z⟩
 keep:=λi h h' st k=>st.at λo e=>k it (by simp) o e
 item:=by
  intro X hP hw hK hc i ac s σ H E I hf st hg;subst hP hw hK;obtain⟨xs,x,hq,hx⟩:=hg;obtain⟨its,rv,p,hz⟩:=I.list hq;obtain⟨u,hu,ru⟩:=rv.get hx;obtain⟨f0,f1,f2,f3,f4,f5⟩:=hf it (by simp);refine wpAny_pyNext_list_item st p.isList (x:=u) (by simpa using hu) λh' oi sb=>?_;have I1:Inv X ac σ H { s with heap:=h' }:=I.turned (t':=s.toks) (λb o hb e=>(sb.2 b hb).trans e) f0 f1 f3 f4 f5;obtain⟨o,e,c,d⟩:=id oi;exact⟨u,rfl,oq (s:={ s with heap:=h' }) e c d (by decide) ⟨x,H,I1,ru,⟨rfl,λys hy=>by rw[I.list_inj hy hq];exact hx⟩,oi,λb hb=>(hf b hb).1⟩⟩
 done:=by
  intro X hP hw hK hc i ac s σ H E I hf st hg;subst hP hw hK;obtain⟨xs,hq,hx⟩:=hg;obtain⟨its,rv,p,hz⟩:=I.list hq;obtain⟨f0,f1,f2,f3,f4,f5⟩:=hf it (by simp);have hl:=rv.length;exact wpAny_pyNext_list_end (I.ok.hd hc) st p.isList (by simp;omega) λh' eb=>⟨rfl,I.turned (t':=s.toks) (λb o hb e=>eb b o hb e) f0 f1 f3 f4 f5⟩
 self:=λ_ _ _ _ _ st h=>wpAny_pyIter_listiter st h
theorem qk {P:Program}{w:World}{K:Frag}{tg:Expr}(a it:Addr):Turn P w K tg (Ix K a) [it] it (λi h=>h.IsTupleIter it a i) where
 mem:=by simp
 obj:=λi h st b hb=>by
  have e:b=it:=by simpa using hb
  subst e;obtain⟨o,e,c,d⟩:=st;exact⟨o,e,λv z=>by rw[d]at z;cases z⟩
 keep:=λi h h' st k=>st.at λo e=>k it (by simp) o e
 item:=by
  intro X hP hw hK hc i ac s σ H E I hf st hg;subst hP hw hK;obtain⟨xs,x,hq,hx⟩:=hg;obtain⟨its,rv,p,hz⟩:=I.tuple hq;obtain⟨u,hu,ru⟩:=rv.get hx;obtain⟨f0,f1,f2,f3,f4,f5⟩:=hf it (by simp);refine wpAny_pyNext_tuple_item st (show s.heap.IsTuple a its.toArray from p) (x:=u) (by simpa using hu) λh' oi sb=>?_;have I1:Inv X ac σ H { s with heap:=h' }:=I.turned (t':=s.toks) (λb o hb e=>(sb.2 b hb).trans e) f0 f1 f3 f4 f5;obtain⟨o,e,c,d⟩:=id oi;exact⟨u,rfl,oq (s:={ s with heap:=h' }) e c d (by decide) ⟨x,H,I1,ru,⟨rfl,λys hy=>by rw[I.tuple_inj hy hq];exact hx⟩,oi,λb hb=>(hf b hb).1⟩⟩
 done:=by
  intro X hP hw hK hc i ac s σ H E I hf st hg;subst hP hw hK;obtain⟨xs,hq,hx⟩:=hg;obtain⟨its,rv,p,hz⟩:=I.tuple hq;obtain⟨f0,f1,f2,f3,f4,f5⟩:=hf it (by simp);have hl:=rv.length;exact wpAny_pyNext_tuple_end (I.ok.hd hc) st (show s.heap.IsTuple a its.toArray from p) (by simp;omega) λh' eb=>⟨rfl,I.turned (t':=s.toks) (λb o hb e=>eb b o hb e) f0 f1 f3 f4 f5⟩
 self:=λ_ _ _ _ _ st h=>wpAny_pyIter_tupleiter st h
theorem ql {P:Program}{w:World}{K:Frag}{tg:Expr}(it:Addr)(lo:Int)(n:Nat):Turn P w K tg (Dm lo n) [it] it (λi h=>IsRangeIter h it (lo+(i:Nat)*1) ((n:Int) - (i:Nat)) 1) where
 mem:=by simp
 obj:=λi h st b hb=>by
  have e:b=it:=by simpa using hb
  subst e;exact⟨_,st,λv z=>by
   have z':Data.fields _=Data.cell v:=z;cases z'⟩
 keep:=λi h h' st k=>k it (by simp) _ st
 item:=by
  intro X hP hw hK hc i ac s σ H E I hf st hg;subst hP hw hK;obtain⟨f0,f1,f2,f3,f4,f5⟩:=hf it (by simp);have W:=Walks.range (prog:=X.prog) (w:=X.w) (I.ok.hd hc) it lo 1 n;refine W.item i s _ _ hg st λv h' tk hv oi kk=>?_;obtain⟨t,rfl⟩:=hv;have I1:Inv X ac σ H { s with heap:=h',toks:=tk }:=I.turned (λb o hb e=>kk b o (by simpa using hb) e) f0 f1 f3 f4 f5;refine⟨_,rfl,oq (s:={ s with heap:=h',toks:=tk }) (n:="range_iterator") oi rfl rfl (by decide) ⟨.int (lo+i),H,I1,⟨t,?_⟩,⟨rfl,rfl⟩,oi,λb hb=>(hf b hb).1⟩⟩;rw[Int.mul_one]
 done:=by
  intro X hP hw hK hc i ac s σ H E I hf st hg;subst hP hw hK;obtain⟨f0,f1,f2,f3,f4,f5⟩:=hf it (by simp);exact wpAny_pyNext_range_end (I.ok.hd hc) st (by have:n<=i:=hg;omega) λh' eb=>⟨rfl,I.turned (t':=s.toks) (λb o hb e=>eb b o hb e) f0 f1 f3 f4 f5⟩
 self:=λ_ _ _ _ _ st h=>wpAny_pyIter_rangeiter st h
section
variable {X:Cx}{tg:Expr}
def Dp (K:Frag)(tl:TE):TI:=λσ H R=>tl σ H λx H1=>∃a,x=.ref a/\(∃xs,fZ K H1 a xs)/\R (Iw K a) H1
def Gy (K:Frag)(tl:TE):TI:=λσ H R=>tl σ H λx H1=>∃a,x=.ref a/\(∃xs,gb K H1 a xs)/\R (Ix K a) H1
theorem xW {l:Expr}{tl:TE}(hl:PE X l tl):PI X tg l (Dp X.K tl):=by
 intro ac s σ H R I h;refine bX (hl ac s σ H _ I h) λv s1 ⟨x,H1,I1,r1,q1⟩=>?_;obtain⟨a,e,⟨xs,hq⟩,q⟩:=q1;subst e;cases r1
 obtain⟨its,rv,p,hz⟩:=I1.list hq;refine wpAny_pyIter_list p.isList ?_;refine⟨s1.heap.objs.size,[s1.heap.objs.size],_,_,H1,rfl,I1.kept (t':=s1.toks) λb o e=>vZ _ e,sW a _,⟨_,vY _ rfl,rfl,rfl⟩,λb hb=>?_,q⟩;have e:b=s1.heap.objs.size:=by simpa using hb
 subst e;exact I1.fpOk (vT _) (I1.hok.fresh (vT _))
theorem AU {l:Expr}{tl:TE}(hl:PE X l tl):PI X tg l (Gy X.K tl):=by
 intro ac s σ H R I h;refine bX (hl ac s σ H _ I h) λv s1 ⟨x,H1,I1,r1,q1⟩=>?_;obtain⟨a,e,⟨xs,hq⟩,q⟩:=q1;subst e;cases r1
 obtain⟨its,rv,p,hz⟩:=I1.tuple hq;refine wpAny_pyIter_tuple (show s1.heap.IsTuple a its.toArray from p) ?_;refine⟨s1.heap.objs.size,[s1.heap.objs.size],_,_,H1,rfl,I1.kept (t':=s1.toks) λb o e=>vZ _ e,qk a _,⟨_,vY _ rfl,rfl,rfl⟩,λb hb=>?_,q⟩;have e:b=s1.heap.objs.size:=by simpa using hb
 subst e;exact I1.fpOk (vT _) (I1.hok.fresh (vT _))
theorem ot {ac:List (Addr×Obj)}{σ:St}{H:Hp}{s:Shared}{R:It->Hp->Prop}{E:Value->Shared->Prop}{lo hi:Int}{t u v:Tok}{tk:Nat}(I:Inv X ac σ H s)(h1 : -(2 ^ 62)<=lo)(h2:lo<2 ^ 62)(h3 : -(2 ^ 62)<=hi)(h4:hi<2 ^ 62)
  (q:R (Dm lo (hi - lo).toNat) H):wq X (pyIter (.ref s.heap.objs.size)) (Iv X ac σ tg R) E { s with heap:=s.heap.push { cls:=.type "range",data:=.fields #[.int lo t,.int hi u,.int 1 v] },toks:=tk }:=by
 refine wpAny_pyIter_range (IsRange.new ..) (small_one h1 h2 h3 h4) ?_;have I1:Inv X ac σ H { s with heap:=s.heap.push { cls:=.type "range",data:=.fields #[.int lo t,.int hi u,.int 1 v] },toks:=tk }:=I.kept λb o e=>vZ _ e;refine⟨(s.heap.push { cls:=.type "range",data:=.fields #[.int lo t,.int hi u,.int 1 v] }).objs.size,[(s.heap.push { cls:=.type "range",data:=.fields #[.int lo t,.int hi u,.int 1 v] }).objs.size],_,_,H,rfl,
  I1.kept (t':=tk) λb o e=>vZ _ e,ql _ lo (hi - lo).toNat,?_,λb hb=>?_,q⟩
 ·have e1:lo+((0:Nat):Int)*1=lo:=by simp
  have e2:(((hi - lo).toNat:Nat):Int) - ((0:Nat):Int)=Builtin.Range.rangeSize lo hi 1:=by rw[rangeSize_one];split<;>omega
  show IsRangeIter _ _ (lo+((0:Nat):Int)*1) ((((hi - lo).toNat:Nat):Int) - ((0:Nat):Int)) 1;rw[e1,e2];exact vY _ rfl
 ·have e:b=(s.heap.push { cls:=.type "range",data:=.fields #[.int lo t,.int hi u,.int 1 v] }).objs.size:=by simpa using hb
  subst e;exact I1.fpOk (vT _) (I1.hok.fresh (vT _))
def Dq (ta:TA):TI:=λσ H R=>ta σ H λvs H1=>∃j:Int,vs=[.int j]/\-(2 ^ 62)<=j/\j<2 ^ 62/\R (Dm 0 j.toNat) H1
def Ds (ta:TA):TI:=λσ H R=>ta σ H λvs H1=>∃i j:Int,vs=[.int i,.int j]/\(-(2 ^ 62)<=i/\i<2 ^ 62/\-(2 ^ 62)<=j/\j<2 ^ 62)/\R (Dm i (j - i).toNat) H1
theorem sX {a:Expr}{ta:TA}{p pos:Pos}(hg:Gl X "range")(hm:X.mg "range" = none)(ha:PA X [a] ta)(hs:starEach [a] X.env=[(false,eval a X.env)]:=by rfl):PI X tg (.Call (.Name "range" p) [a] [] pos) (Dq ta):=by
 intro ac s σ H R I h;refine Call_ (g6 I hg hm boot_range (PyProof.Rows.callWith_type1 (bX (ha pos ac s σ H _ I h) λus s1 ⟨vs,H1,I1,r1,q1⟩=>?_) hs rfl));obtain⟨j,e,q1,q2,q⟩:=q1;subst e;cases r1 with
 |cons r rr=>
  cases rr
  obtain⟨t,rfl⟩:=r;exact call_range_1 (ot I1 (by omega) (by omega) q1 q2 (by simpa using q))
theorem sY {a b:Expr}{ta:TA}{p pos:Pos}(hg:Gl X "range")(hm:X.mg "range" = none)(ha:PA X [a,b] ta)(hs:starEach [a,b] X.env=[(false,eval a X.env),(false,eval b X.env)]:=by rfl)(lE:starEach [b] X.env=[(false,eval b X.env)]:=by rfl):
  PI X tg (.Call (.Name "range" p) [a,b] [] pos) (Ds ta):=by
 intro ac s σ H R I h;refine Call_ (g6 I hg hm boot_range (PyProof.Rows.callWith_type1 (bX (ha pos ac s σ H _ I h) λus s1 ⟨vs,H1,I1,r1,q1⟩=>?_) (by rw[hs,lE]) (by rw[lE];rfl)));obtain⟨i,j,e,⟨q1,q2,q3,q4⟩,q⟩:=q1;subst e;cases r1 with
 |cons r rr=>
  cases rr with
  |cons r' rr=>
   cases rr
   obtain⟨t,rfl⟩:=r;obtain⟨t',rfl⟩:=r';exact call_range_2 (ot I1 q1 q2 q3 q4 q)
def AV (wi:TI)(g:TG)(tb:TS):TS:=λD σ H=>wi σ H λJ H1=>∃W:Nat->Nat->St->Hp->Prop,(∃m,W 0 m σ H1)/\∀i m σ H,W i m σ H ->
 (J.stop i H/\D.nx σ H)∨(J.go i H/\∃N:St->Hp->Prop,(∀σ' H',N σ' H'->∃m',m'<m/\W (i+1) m' σ' H')/\∀x H',J.yld i H x H'->g x σ H' λσ2 H2=>tb { D with nx:=N,ct:=N,bk:=D.nx } σ2 H2)
def ji (fp:List Addr)(h:Heap):List (Addr×Obj):=fp.filterMap λb=>(h.get? b).map λo=>(b,o)
theorem gc {fp:List Addr}{h:Heap}{b:Addr}{o:Obj}(hb:b∈fp)(e:h.get? b=some o):(b,o)∈ji fp h:=List.mem_filterMap.mpr ⟨b,hb,by rw[e];rfl⟩
theorem sZ (hp:p∈ji fp h):p.1∈fp/\h.get? p.1=some p.2:=by
 obtain⟨b,hb,e⟩:=List.mem_filterMap.mp hp;cases q:h.get? b with
 |none=>rw[q]at e;cases e
 |some o=>
  rw[q]at e;have e':(b,o)=p:=vJ e;subst e';exact⟨hb,q⟩
theorem Inv.pinned (I:Inv X ac σ H s)(hf:∀b∈fp,iI X ac H b)(ho:∀b∈fp,∃o,s.heap.get? b=some o/\∀v,o.data≠.cell v):Inv X (ac++ji fp s.heap) σ H s :=
 I.pins_of λp hp=>(List.mem_append.mp hp).elim (λz=>I.pin p (mY _ z)) λz=>by
  obtain⟨hb,e⟩:=sZ z;obtain⟨f0,f1,f2,_⟩:=hf p.1 hb;obtain⟨o,e',d⟩:=ho p.1 hb;rw[e]at e';cases e';exact⟨e,f0,f1,f2,d⟩
theorem Inv.unpinned (I:Inv X (ac++pl) σ H s):Inv X ac σ H s:=I.pins_of λp hp=>I.pin p (mY _ (List.mem_append_left _ hp))
theorem qm {bR:Expr}{body:List Stmt}{wi:TI}{g:TG}{tb:TS}{pos:Pos}(hp:PassesOwn (model X.prog X.w) X.A X.env X.xe)(hc:X.calm=true)(hi:PI X tg bR wi)(hg:PG X tg g)(hb:kh X body tb)
  (hs:∀x,foldedSetIterable bR X.env x=pure x:=by intro _;rfl):PS X (.For tg bR body [] pos) (AV wi g tb):=by
 intro ac s σ H D I h;refine wpAny_For (bX (hi ac s σ H _ I h) λv s1 h1=>bX h1 λFP s2 h2=>?_) hs;obtain⟨it,fp,tn,J,H2,e,I2,T,rj,f2,W,⟨m0,w0⟩,Ce⟩:=h2;subst e
 -- what stays true of the iterator's objects through the ut
 have Cf:∀ {H':Hp},(∀b∈fp,H' b=none)->∀b∈fp,iI X ac H' b:=λhn b hb=>⟨hn b hb,(f2 b hb).2⟩;refine codeAny_forLoop_any (λn s'=>∃i σ' H',Inv X ac σ' H' s'/\tn i s'.heap/\(∀b∈fp,H' b=none)/\W i n σ' H') ?_ m0 ⟨0,σ,H2,I2,rj,λb hb=>(f2 b hb).1,w0⟩;rintro n s3 ⟨i,σ3,H3,I3,E6,IU,w3⟩;rcases Ce i n σ3 H3 w3 with⟨stop,qn⟩|⟨go,N,hN,step⟩
 ·refine wpAny_passesOwn hp (bX (T.done X rfl rfl rfl hc i ac s3 σ3 H3 X.xe I3 (Cf IU) E6 stop) λr s4 ⟨hr,I4⟩=>?_);subst hr;exact wpAny_execs_nil ⟨σ3,H3,I4,qn⟩
 ·refine wpAny_passesOwn hp (bX (T.item X rfl rfl rfl hc i ac s3 σ3 H3 X.xe I3 (Cf IU) E6 go) λr s4 ⟨u,hr,h4⟩=>?_);subst hr;refine wpAny_passesOwn hp (bX h4 λ_ s5 ⟨x,H5,I5,r5,y5,Hi,Hj⟩=>?_);have KO:=I5.pinned (Cf Hj) (T.obj _ _ Hi);refine wpAny_passesOwn hp (bX (hg _ s5 σ3 H5 x u _ KO r5 (step x H5 y5)) λ_ s6 ⟨σ6,H6,I6,q6⟩=>?_);refine wpAny_passesOwn hp (bX (hb _ s6 σ6 H6 _ I6 q6) λf s7 q7=>?_);have again:∀ {σ7:St}{H7:Hp},Inv X (ac++ji fp s5.heap) σ7 H7 s7->N σ7 H7->∃m,m<n/\∃i σ' H',Inv X ac σ' H' s7/\tn i s7.heap/\(∀b∈fp,H' b=none)/\W i m σ' H':=λ{σ7 H7} I7 n7=>by
   obtain⟨m',hm,w7⟩:=hN σ7 H7 n7;refine⟨m',hm,i+1,σ7,H7,I7.unpinned,T.keep _ _ _ Hi λb hb o e=>(I7.pin (b,o) (mY _ (mY _ (gc hb e)))).1,λb hb=>?_,w7⟩;obtain⟨o,e,d⟩:=T.obj _ _ Hi b hb;exact(I7.pin (b,o) (mY _ (mY _ (gc hb e)))).2.1
  cases f with
  |next=>obtain⟨σ7,H7,I7,n7⟩:=q7;exact again I7 n7
  |cont=>obtain⟨σ7,H7,I7,n7⟩:=q7;exact again I7 n7
  |brk=>obtain⟨σ7,H7,I7,q7⟩:=q7;exact⟨σ7,H7,I7.unpinned,q7⟩
  |ret v=>obtain⟨x7,σ7,H7,I7,r7,q7⟩:=q7;exact⟨x7,σ7,H7,I7.unpinned,r7,q7⟩
end
abbrev R2:=V->V->Hp->VK->Prop
def cF (X:Cx)(f:Value->Value->Sem Value)(r:R2):Prop :=
 ∀(ac:List (Addr×Obj))(s:Shared)(σ:St)(H:Hp)(x y:V)(v u:Value)(Q:VK),Inv X ac σ H s->aI x v->aI y u->r x y H Q ->
  wq X (f v u) (EP X ac σ Q) X.xe s
def bM (X:Cx)(f:Value)(r:List V->Hp->VK->Prop):Prop :=
 ∀(ac:List (Addr×Obj))(s:Shared)(σ:St)(H:Hp)(xs:List V)(us:List Value)(Q:VK),Inv X ac σ H s->aT xs us->r xs H Q ->
  wq X (call f us) (EP X ac σ Q) X.xe s
def F5 (r:R2)(ta tb:TE):TE:=λσ H Q=>ta σ H λx H1=>tb σ H1 λy H2=>r x y H2 Q
def rI (C:Int->Int->Prop)(g:Int->Int->V):R2:=λx y H Q=>∃i j,x=.int i/\y=.int j/\C i j/\Q (g i j) H
def xX (g:Int->Int->V):R2:=λx y H Q=>∃i j,x=.int i/\y=.int j/\Q (g i j) H
section
variable {X:Cx}{a b c:Expr}{ta tb tc:TE}{pos:Pos}
theorem AW (ha:PE X a ta)(hb:PE X b tb){ac:List (Addr×Obj)}{s:Shared}{σ:St}{H:Hp}{R:V->V->Hp->Prop}(I:Inv X ac σ H s)
  (h:ta σ H λx H1=>tb σ H1 λy H2=>R x y H2) {Q:Value->Shared->Prop}{f:Value->Value->Sem Value}
  (hf:∀v u s2 x y H2,Inv X ac σ H2 s2->aI x v->aI y u->R x y H2->wq X (f v u) Q X.xe s2):
  wq X (eval a X.env) (λv s₁=>wq X (eval b X.env) (λu s₂=>wq X (f v u) Q X.xe s₂) X.xe s₁) X.xe s:=by
 refine bX (ha ac s σ H _ I h) λv s1 ⟨x,H1,I1,r1,q1⟩=>?_;refine bX (hb ac s1 σ H1 _ I1 q1) λu s2 ⟨y,H2,I2,r2,q2⟩=>?_;exact hf v u s2 x y H2 I2 r1 r2 q2
theorem zY {op:Operator}{r:R2}(ho:cF X (binaryOp op) r)(ha:PE X a ta)(hb:PE X b tb):PE X (.BinOp a op b pos) (F5 r ta tb):=by
 intro ac s σ H Q I h;exact wpAny_BinOp (AW ha hb I h λv u s2 x y H2 I2 rx ry q=>ho ac s2 σ H2 x y v u Q I2 rx ry q)
theorem Gz {f:Value->Value->Sem Value}{C:Int->Int->Prop}{g:Int->Int->Int}
  (rule:∀(i j:Int)(t u:Tok)(s:Shared)(Q:Value->Shared->Prop)(E:Value->Shared->Prop),C i j->Q (.int (g i j) s.toks) { s with toks:=s.toks+1 }->wq X (f (.int i t) (.int j u)) Q E s):
  cF X f (rI C λi j=>.int (g i j)):=by
 intro ac s σ H x y v u Q I rx ry h;obtain⟨i,j,rfl,rfl,hc,q⟩:=h;obtain⟨t,rfl⟩:=rx;obtain⟨t',rfl⟩:=ry;exact rule i j t t' s _ _ hc ⟨.int (g i j),H,I.tok _,⟨_,rfl⟩,q⟩
theorem Dt {f:Value->Value->Sem Value}{g:Int->Int->Int}
  (rule:∀(i j:Int)(t u:Tok)(s:Shared)(Q:Value->Shared->Prop)(E:Value->Shared->Prop),Q (.int (g i j) s.toks) { s with toks:=s.toks+1 }->wq X (f (.int i t) (.int j u)) Q E s):
  cF X f (xX λi j=>.int (g i j)):=by
 intro ac s σ H x y v u Q I rx ry h;obtain⟨i,j,rfl,rfl,q⟩:=h;obtain⟨t,rfl⟩:=rx;obtain⟨t',rfl⟩:=ry;exact rule i j t t' s _ _ ⟨.int (g i j),H,I.tok _,⟨_,rfl⟩,q⟩
theorem xY {f:Value->Value->Sem Value}{g:Int->Int->Bool}
  (rule:∀(i j:Int)(t u:Tok)(s:Shared)(Q:Value->Shared->Prop)(E:Value->Shared->Prop),Q (.bool (g i j)) s->wq X (f (.int i t) (.int j u)) Q E s):
  cF X f (xX λi j=>.bl (g i j)):=by
 intro ac s σ H x y v u Q I rx ry h;obtain⟨i,j,rfl,rfl,q⟩:=h;obtain⟨t,rfl⟩:=rx;obtain⟨t',rfl⟩:=ry;exact rule i j t t' s _ _ ⟨.bl (g i j),H,I,rfl,q⟩
def Du (i j:Int):Prop:=0<j/\j<1073741824
def xZ (i j:Int):Prop:=(-(2 ^ 64)<i/\i<2 ^ 64)∨(-(2 ^ 64)<j/\j<2 ^ 64)
theorem xZ.ok (h:xZ i j):IntMulOk i j:=by
 rcases h with⟨h1,h2⟩|⟨h1,h2⟩
 ·exact .of_left (intBits_le_64 h1 h2)
 ·exact .of_right (intBits_le_64 h1 h2)
theorem AX:cF X (binaryOp .Add) (xX λi j=>.int (i+j)):=Dt λ_ _ _ _ _ _ _ q=>add_int q
theorem AY:cF X (binaryOp .Sub) (xX λi j=>.int (i - j)):=Dt λ_ _ _ _ _ _ _ q=>sub_int q
theorem AZ:cF X (binaryOp .Mult) (rI xZ λi j=>.int (i*j)):=Gz λ_ _ _ _ _ _ _ hc q=>mul_int q hc.ok
theorem ya:cF X (binaryOp .FloorDiv) (rI Du λi j=>.int (i / j)):=Gz λi j _ _ _ _ _ hc q=>by
 have h1:(0:Int)<j:=hc.1;have h2:j<1073741824:=hc.2;exact floordiv_int (by omega) (by rw[Int.fdiv_eq_ediv_of_nonneg i (by omega)];exact q) (.inl (PyProof.noPylong_small (by omega)))
theorem Ba:cF X (binaryOp .Mod) (rI (λ_ j=>0<j) λi j=>.int (i % j)):=Gz λi j _ _ _ _ _ hc q=>by
 have h1:(0:Int)<j:=hc;exact mod_int' (by omega) (by rw[Int.fmod_eq_emod_of_nonneg i (by omega)];exact q)
theorem td:cF X (binaryOp .Add) (λx y H Q=>∃i k,x=.int i/\y=.bl k/\Q (.int (i+b2i k)) H):=by
 intro ac s σ H x y v u Q I rx ry h;obtain⟨i,k,rfl,rfl,q⟩:=h;obtain⟨t,rfl⟩:=rx;cases ry
 exact add_int_bool ⟨.int (i+b2i k),H,I.tok _,⟨_,rfl⟩,q⟩
end
section
variable {X:Cx}{a b c:Expr}{ta tb tc:TE}{pos:Pos}
theorem Dv:cF X (compareOp .Lt) (xX λi j=>.bl (decide (i<j))):=xY λ_ _ _ _ _ _ _ q=>lt_int q
theorem Dw:cF X (compareOp .LtE) (xX λi j=>.bl (decide (i<=j))):=xY λ_ _ _ _ _ _ _ q=>le_int q
theorem Dx:cF X (compareOp .Gt) (xX λi j=>.bl (decide (j<i))):=xY λ_ _ _ _ _ _ _ q=>gt_int q
theorem Dy:cF X (compareOp .GtE) (xX λi j=>.bl (decide (j<=i))):=xY λ_ _ _ _ _ _ _ q=>ge_int q
theorem cF.or (h:cF X f r)(h':cF X f r'):cF X f (λx y H Q=>r x y H Q∨r' x y H Q):=by
 intro ac s σ H x y v u Q I rx ry q;rcases q with q|q
 ·exact h ac s σ H x y v u Q I rx ry q
 ·exact h' ac s σ H x y v u Q I rx ry q
theorem G0 (b:Expr)(h:op≠.In:=by decide)(h2:op≠.NotIn:=by decide):behindInMarks op b=false:=by
 have e1:(op == CmpOp.In)=false:=by cases op<;>first|rfl|exact absurd rfl h
 have e2:(op == CmpOp.NotIn)=false:=by cases op<;>first|rfl|exact absurd rfl h2
 cases b<;>simp[behindInMarks,e1,e2]
theorem yc (ho:cF X (compareOp op) r)(ha:PE X a ta)(hb:PE X b tb)(hm:behindInMarks op b=false):PE X (.Compare a [op] [b] pos) (F5 r ta tb):=by
 intro ac s σ H Q I h;exact wpAny_Compare1 (AW ha hb I h λv u s2 x y H2 I2 rx ry q=>ho ac s2 σ H2 x y v u Q I2 rx ry q) hm
def zZ (t:TE):TT:=λσ H Q=>t σ H λx H'=>∃k,x=.bl k/\Q k H'
theorem rA {op:CmpOp}{r:R2}(ho:cF X (compareOp op) r)(ha:PE X a ta)(hb:PE X b tb)(hm:behindInMarks op b=false):PT X (.Compare a [op] [b] pos) (zZ (F5 r ta tb)):=by
 intro ac s σ H Q I h;refine wpAny_isTrue_Compare1 (bX (ha ac s σ H _ I h) λv s1 ⟨x,H1,I1,r1,q1⟩=>bX (hb ac s1 σ H1 _ I1 q1) λu s2 ⟨y,H2,I2,r2,q2⟩=>
  bX (ho ac s2 σ H2 x y v u _ I2 r1 r2 q2) λc s3 ⟨z,H3,I3,r3,k,e,q3⟩=>?_) hm
 subst e;cases r3
 exact wpAny_truthy_bool ⟨H3,I3,q3⟩
def qo (r r':R2)(ta tb tc:TE):TE:=λσ H Q=>ta σ H λx H1=>tb σ H1 λy H2=>r x y H2 λz H3=>∃k,z=.bl k /\
 (if k=true then tc σ H3 λw' H4=>r' y w' H4 Q else Q (.bl false) H3)
theorem uE {op uu:CmpOp}{r r':R2}(ho:cF X (compareOp op) r)(og:cF X (compareOp uu) r')(ha:PE X a ta)(hb:PE X b tb)(hc:PE X c tc)
  (hm:lastMarks [op,uu] [b,c]=false:=by with_unfolding_all rfl):PE X (.Compare a [op,uu] [b,c] pos) (qo r r' ta tb tc):=by
 intro ac s σ H Q I h;refine Compare_chain (bX (ha ac s σ H _ I h) λv s1 ⟨x,H1,I1,r1,q1⟩=>chain_link (bX (hb ac s1 σ H1 _ I1 q1) λu s2 ⟨y,H2,I2,r2,q2⟩=>
  bX (ho ac s2 σ H2 x y v u _ I2 r1 r2 q2) λd s3 ⟨z,H3,I3,r3,k,e,q3⟩=>?_)) hm
 subst e;cases r3
 refine wpAny_truthy_bool ?_;cases k with
 |false=>exact ite_ff ⟨.bl false,H3,I3,rfl,q3⟩
 |true=>exact ite_tt (chain_last (bX (hc ac s3 σ H3 _ I3 q3) λw' s4 ⟨z',H4,I4,r4,q4⟩=>og ac s4 σ H4 y z' u w' Q I4 r2 r4 q4))
theorem uF {op uu:CmpOp}{r r':R2}(ho:cF X (compareOp op) r)(og:cF X (compareOp uu) r')(ha:PE X a ta)(hb:PE X b tb)(hc:PE X c tc)
  (hm:lastMarks [op,uu] [b,c]=false:=by with_unfolding_all rfl):PT X (.Compare a [op,uu] [b,c] pos) (zZ (qo r r' ta tb tc)):=by
 intro ac s σ H Q I h;refine isTrue_chain (bX (ha ac s σ H _ I h) λv s1 ⟨x,H1,I1,r1,q1⟩=>test_link (bX (hb ac s1 σ H1 _ I1 q1) λu s2 ⟨y,H2,I2,r2,q2⟩=>
  bX (ho ac s2 σ H2 x y v u _ I2 r1 r2 q2) λd s3 ⟨z,H3,I3,r3,k,e,q3⟩=>?_)) hm
 subst e;cases r3
 refine wpAny_truthy_bool ?_;cases k with
 |false=>
  obtain⟨k',e',q'⟩:=q3;cases e'
  exact ite_ff ⟨H3,I3,q'⟩
 |true=>
  refine ite_tt (test_last (bX (hc ac s3 σ H3 _ I3 q3) λw' s4 ⟨z',H4,I4,r4,q4⟩=>bX (og ac s4 σ H4 y z' u w' _ I4 r2 r4 q4) λd' s5 ⟨z2,H5,I5,r5,k2,e2,q5⟩=>?_));subst e2;cases r5
  exact wpAny_truthy_bool ⟨H5,I5,q5⟩
theorem ki:(sizeLine:Nat)<2 ^ 63:=by rw[sizeLine_eq];decide
theorem qp:cF X (binaryOp .Add) (λx y H Q=>∃i j,x=.str i/\y=.str j/\i.length+j.length<=sizeLine/\Q (.str (i++j)) H):=by
 intro ac s σ H x y v u Q I rx ry h;obtain⟨i,j,rfl,rfl,hz,q⟩:=h;obtain⟨t,rfl⟩:=rx;obtain⟨t',rfl⟩:=ry;exact add_str (λt' tk=>⟨.str (i++j),H,I.tok _,⟨_,rfl⟩,q⟩) hz
theorem kj (r:aT [x] us):∃u,us=[u]/\aI x u:=by
 cases r with
 |cons r1 r2=>cases r2;exact⟨_,rfl,r1⟩
theorem uG (r:aT [x,y] us):∃u w',us=[u,w']/\aI x u/\aI y w':=by
 cases r with
 |cons r1 r2=>
  cases r2 with
  |cons r3 r4=>cases r4;exact⟨_,_,rfl,r1,r3⟩
theorem tf (hc:X.calm=true):bM X (.builtin "min") (λxs H Q=>∃i j,xs=[.int i,.int j]/\Q (.int (if j<i then j else i)) H):=by
 intro ac s σ H xs us Q I r h;obtain⟨i,j,rfl,q⟩:=h;obtain⟨u,w',rfl,⟨t,rfl⟩,⟨t',rfl⟩⟩:=uG r;refine min_two_ints (I.ok.hd hc) λh' tk k=>⟨_,H,I.kept k,?_,q⟩;by_cases hj:j<i
 ·rw[if_pos hj,if_pos hj];exact⟨_,rfl⟩
 ·rw[if_neg hj,if_neg hj];exact⟨_,rfl⟩
end
structure z4 (h:Heap)(x dx C:Addr)(mA:Str->Option Value):Prop where
 obj:h.get? x=some (PySem.W.instObj C dx)
 ns:h.Ns1 dx mA
 ne:dx≠x
theorem lW {h:Heap}{dx:Addr}{mA:Str->Option Value}(n:h.Ns1 dx mA):∃od,h.get? dx=some od/\∀name,PySem.W.lookIn name od=some (mA name):=by
 obtain⟨o,es,ep,ho,hd,hk,_,hm⟩:=n;refine⟨o,ho,λname=>?_⟩;have e:=hm name;unfold nsFind findBy at e;rw[←Array.find?_toList]at e;unfold PySem.W.lookIn;rw[hd];dsimp only;split
 ·rename_i y q;rw[q]at e;exact congrArg some e
 ·rename_i q;rw[q]at e;have a:es.toList.any (·.refKey)=false:=by
   rw[List.any_eq_false];intro y hy;obtain⟨z,t,z5⟩:=hk y (Array.mem_toList_iff.mp hy);simp[DictEntry.refKey,z5]
  have a':¬es.toList.any (·.refKey)=true:=by rw[a];exact uX
  rw[if_neg a'];exact congrArg some e
theorem z4.look (I:z4 h x dx C mA):∃od,PySem.W.InstAt h x (PySem.W.instObj C dx) C (some od)/\∀name,PySem.W.lookIn name od=some (mA name) :=
 let ⟨od,ho,hl⟩:=lW I.ns
 ⟨od,⟨I.obj,rfl,rfl,ho⟩,hl⟩
section
variable {prog:Program}{w:World}{A:Around}{E:Value->Shared->Prop}{s:Shared}{K:Frag}{x dx C f:Addr}{mA:Str->Option Value}{name:Str}{v:Value}
theorem uH (X:K.In s.heap)(I:z4 s.heap x dx C mA)(hg:PySem.W.plainGet K C name=true)
  (hf:PySem.W.findIn K (.ref C) name=some (some (.ref f))) (ht:PySem.W.isFn K (.ref f)=true) (hv:mA name=none) (h:Q (.ref f,[.ref x]) s):
  wpAny (model prog w) A (getMethod (.ref x) name pl) Q E s:=by
 obtain⟨od,J,hl⟩:=I.look;exact PySem.W.method_fn X J (PySem.W.plainGet_of hg).1 (PySem.W.plainGet_of hg).2 hf (beq_iff_eq.mp ht) (by show(PySem.W.lookIn name od).map (·.isSome)=some false;rw[hl,hv];rfl) h
theorem Dz (X:K.In s.heap)(hm:PySem.W.makesIn K C=true)
  (hi:PySem.W.findIn K (.ref C) "__init__" = some (some (.ref f))) (hf:PySem.W.typeIn K (.ref f)=some (.type "function"))
  (h:codeAny (model prog w) (A.under (.builtin "type.__call__" ⟨.ref C::vs,kw⟩)) (.call (.ref f) ⟨.ref (s.heap.objs.size+1)::vs,kw⟩) (PySem.W.InitBack (s.heap.objs.size+1) R)
   { s with heap:=(s.heap.push PySem.W.emptyDict).push (PySem.W.instObj C s.heap.objs.size) }):
  codeAny (model prog w) A (.call (.ref C) ⟨vs,kw⟩) R s:=by
 obtain⟨hh,g,d,t,os⟩:=s;exact PySem.W.make_core (PySem.W.makes_of X hm) (PySem.W.looks_findIn X hi) (λself=>PySem.W.bind_fn X self hf) (.inl rfl) h
end
theorem lF.none_of (r:lF none o):o=none:=by
 cases o with
 |none=>rfl
 |some u=>exact(show False from r).elim
section
variable {P:Program}{w:World}{H H':Hp}{h h':Heap}{a C dx:Addr}{fs KN:List (Str×V)}
theorem rB (hok:j0 P w H h)(e:H a=some (.ins C dx fs)):∃mA,z4 h a dx C mA/\(∀f,lF (fs.lookup f) (mA f))/\PySem.Within mA (fs.map (·.1))/\fs.length<=1000/\H dx=some (.own a):=by
 obtain⟨d,z,ne,ob,mA,n,r,q⟩:=(show bC P w H h a (.ins C dx fs)from hok a _ e);exact⟨mA,⟨ob,n,ne⟩,r,q,z,d⟩
end
structure Cls (K:Frag)(C:Addr):Prop where
 pg:PySem.W.plainGet K C Str.empty=true
 hd:PySem.W.hasDictIn K C=true
 po:PySem.W.plainOver K C=true
 sa:PySem.W.findIn K (.ref C) "__setattr__" = some (some (.builtin "object.__setattr__"))
theorem Cls.get {K:Frag}{C:Addr}(c:Cls K C)(f:Str):PySem.W.plainGet K C f=true:=c.pg
def Bb (K:Frag)(C:Addr)(f:Str):Prop:=PySem.W.findIn K (.ref C) f=some none
structure Meth (K:Frag)(C:Addr)(m:Str)(f:Addr):Prop where
 at_:PySem.W.findIn K (.ref C) m=some (some (.ref f))
 fn:PySem.W.isFn K (.ref f)=true
 kp:PySem.W.keepIn K (.ref f)=true
section
variable {X:Cx}{ac:List (Addr×Obj)}{σ:St}{H:Hp}{s:Shared}{a C dx:Addr}{fs:List (Str×V)}{f:Str}{v:V}{A:Around}{E:Value->Shared->Prop}
theorem qt {m:Str}{g:Addr}{pl:Sem Bool}{Q:Value×List Value->Shared->Prop}(I:Inv X ac σ H s)(e:H a=some (.ins C dx fs))(c:Cls X.K C)(k:Meth X.K C m g)(l:fs.lookup m=none)
  (h:Q (.ref g,[.ref a]) s):wpAny (model X.prog X.w) A (getMethod (.ref a) m pl) Q E s:=by
 obtain⟨mA,O,r,_,_,_⟩:=rB I.hok e;have hn:mA m=none:=lF.none_of (by rw[←l];exact r m);exact uH I.kIn O (c.get m) k.at_ k.fn hn h
theorem Inv.made (I:Inv X ac σ H s):Inv X ac σ (upd (upd H s.heap.objs.size (.own (s.heap.objs.size+1))) (s.heap.objs.size+1) (.ins C s.heap.objs.size []))
  { s with heap:=(s.heap.push PySem.W.emptyDict).push (PySem.W.instObj C s.heap.objs.size) }:=by
 have e1:(s.heap.push PySem.W.emptyDict).get? s.heap.objs.size=some PySem.W.emptyDict:=vY s.heap rfl;have e2:((s.heap.push PySem.W.emptyDict).push (PySem.W.instObj C s.heap.objs.size)).get? (s.heap.objs.size+1)=some (PySem.W.instObj C s.heap.objs.size):=by
  have:=vY (s.heap.push PySem.W.emptyDict) (o:=PySem.W.instObj C s.heap.objs.size) rfl;rwa [Heap.size_push]at this
 have e3:(s.heap.push PySem.W.emptyDict).Ns s.heap.objs.size (λ_=>none):=⟨PySem.W.emptyDict,#[],_,e1,rfl,(λe he=>absurd he (by simp)),λ_=>rfl⟩;have I1:=I.laid (a:=s.heap.objs.size) (o:=.own (s.heap.objs.size+1)) (h':=s.heap.push PySem.W.emptyDict) (t':=s.toks) (λb u q=>vZ _ q) (vT _) ⟨_,e1⟩;refine I1.laid (a:=s.heap.objs.size+1) (o:=.ins C s.heap.objs.size []) (t':=s.toks) (λb u q=>vZ _ q) (Nat.le_of_eq (Heap.size_push _ _)) ?_;have ne:s.heap.objs.size≠s.heap.objs.size+1:=vS (Nat.lt_succ_self _);refine⟨by rw[au ne,aw],uN _,ne,e2,λ_=>none,(Heap.Ns1.of_empty e3).at λo q=>vZ _ q,λ_=>True.intro,λy hy=>absurd rfl hy⟩
theorem ye {prog:Program}{w:World}{env:Env}{e:Expr}{f:Str}{pos:Pos}{s:Shared}{Q:Value->Shared->Prop}(hb:attributeBase e f env (eval e env)=eval e env)
  (h:wpAny (model prog w) A (eval e env) (λo s₁=>wpAny (model prog w) A (getAttr o f true) Q E s₁) E s):wpAny (model prog w) A (eval (.Attribute e f pos) env) Q E s :=
 Attribute_any_ h (by rw[arm_eval_Attribute,hb])
end
def Ki (K:Frag)(ta:TE)(f:Str):TE:=λσ H Q=>ta σ H λx H1=>∃a C dx fs v,x=.ref a/\H1 a=some (.ins C dx fs)/\Cls K C/\Bb K C f/\fs.lookup f=some v/\Q v H1
section
variable {X:Cx}{o e value:Expr}{f:Str}{pos lR KP:Pos}{ta tv:TE}
theorem Aa {pl:Sem Bool}{m:Str}{gW:Pos}{args:List Expr}{ac:List (Addr×Obj)}{s:Shared}{σ:St}{H:Hp}{Q:Value->Shared->Prop}{te:TE}(he:PE X e te)(I:Inv X ac σ H s)
  (h:te σ H λx H1=>∃a C dx fs g,x=.ref a/\H1 a=some (.ins C dx fs)/\Cls X.K C/\Meth X.K C m g/\fs.lookup m=none /\
   ∀s1,Inv X ac σ H1 s1->wq X (callWith pos (.ref g) [.ref a] (backTo pos (starEach args X.env)) (backToKw pos (keywordEach [] X.env))) Q X.xe s1)
  (ht:eval (.Call (.Attribute e m gW) args [] pos) X.env=(do
   let ov ←eval e X.env
   standAt gW.atName
   let (f,first) ←holding [ov] (getMethod ov m pl)
   callWith pos f first (backTo pos (starEach args X.env)) (backToKw pos (keywordEach [] X.env)))):
  wq X (eval (.Call (.Attribute e m gW) args [] pos) X.env) Q X.xe s:=by
 refine PySem.W.methodCall_KW (pl:=pl) (bX (he ac s σ H _ I h) λu s1 ⟨x,H1,I1,rx,a,C,dx,fs,g,ex,ea,c,k,l,q⟩=>?_) ht;subst ex;obtain rfl:u=Value.ref a:=rx;exact qt I1 ea c k l (q s1 I1)
end
section
variable {X:Cx}{ac:List (Addr×Obj)}{σ:St}{H:Hp}{s:Shared}{A:Around}{E:Value->Shared->Prop}{Q:Value->Shared->Prop}{c:Value}{b:Bool}
inductive TyOf (K:Frag)(H:Hp):V->Value->Prop where
 |non:TyOf K H .non (.type "NoneType")
 |bl (x:Bool):TyOf K H (.bl x) (.type "bool")
 |int (i:Int):TyOf K H (.int i) (.type "int")
 |str (x:Str):TyOf K H (.str x) (.type "str")
 |flt (x:UInt64):TyOf K H (.flt x) (.type "float")
 |lst {a:Addr}{xs:List V}(e:H a=some (.lst xs)):TyOf K H (.ref a) (.type "list")
 |frz {a:Addr}{o:Obj}{xs:List V}(e:H a=some (.frz o (.lst xs))):TyOf K H (.ref a) (.type "list")
 |tup {a:Addr}{xs:List V}(e:H a=some (.tup xs)):TyOf K H (.ref a) (.type "tuple")
 |dK {a:Addr}{b8:List (iA×V)}{ob:Obj}(e:H a=some (.dK b8 ob)):TyOf K H (.ref a) (.type "dict")
 |dT {a:Addr}{b8:List (List iA×V)}(e:H a=some (.dT b8)):TyOf K H (.ref a) (.type "dict")
 |ins {a C dx:Addr}{fs:List (Str×V)}(e:H a=some (.ins C dx fs)) (cl:Cls K C) (ha:PySem.W.findIn K (.ref C) "__class__" = some (some (.builtin "object.__class__")))
   (hn:PySem.W.specialIn K (.builtin "object.__class__") "__get__" = some (some (.builtin "getset_descriptor.__get__"))) (CK:PySem.W.takesIn K (.builtin "object.__class__")=some true)
   (hm:PySem.W.mroIn K C (.type "object")=some true):TyOf K H (.ref a) (.ref C)
theorem dz (I:Inv X ac σ H s)(rx:aI x u)(ty:TyOf X.K H x t)(e:PySem.W.kitOne X.K t c=some b)(h:∀tk,Q (.bool b) { s with toks:=tk }):
  wpAny (model X.prog X.w) A (call (.builtin "isinstance") [u,c]) Q E s:=by
 cases ty with
 |non=>cases (show u=Value.none from rx);exact kia_one PySem.W.kitx_none I.kIn True.intro e (λz=>nomatch z) h
 |bl y=>cases (show u=Value.bool y from rx);exact kia_one PySem.W.kitx_bool I.kIn True.intro e (λz=>nomatch z) h
 |int i=>obtain⟨t,q⟩:=(show ∃t,u=Value.int i t from rx);cases q;exact kia_one PySem.W.kitx_int I.kIn True.intro e (λz=>nomatch z) h
 |str y=>obtain⟨t,q⟩:=(show ∃t,u=Value.str y t from rx);cases q;exact kia_one PySem.W.kitx_str I.kIn True.intro e (λz=>nomatch z) h
 |flt y=>obtain⟨t,q⟩:=(show ∃t,u=Value.float y t from rx);cases q;exact kia_one PySem.W.kitx_float I.kIn True.intro e (λz=>nomatch z) h
 |@lst a xs ea=>
  cases (show u=Value.ref a from rx)
  obtain⟨_,_,n,_,h1⟩:=(show bC X.prog X.w H s.heap a (.lst xs)from I.hok a _ ea);exact kia_one PySem.W.kitx_list I.kIn ⟨_,h1,rfl⟩ e (λz=>nomatch z) h
 |@frz a ob xs ea=>
  cases (show u=Value.ref a from rx)
  obtain⟨_,_,_,n,_,h1⟩:=(show bC X.prog X.w H s.heap a (.frz ob (.lst xs))from I.hok a _ ea);exact kia_one PySem.W.kitx_list I.kIn ⟨_,h1,rfl⟩ e (λz=>nomatch z) h
 |@tup a xs ea=>
  cases (show u=Value.ref a from rx)
  obtain⟨_,_,_,p⟩:=(show bC X.prog X.w H s.heap a (.tup xs)from I.hok a _ ea);obtain⟨o,h1,h2,_⟩:=p;exact kia_one PySem.W.kitx_tuple I.kIn ⟨o,h1,h2⟩ e (λz=>nomatch z) h
 |@dK a b8 ob ea=>
  cases (show u=Value.ref a from rx)
  obtain⟨_,_,_,vs,_,p⟩:=(show bC X.prog X.w H s.heap a (.dK b8 ob)from I.hok a _ ea);obtain⟨o,es,ep,h1,h2,_⟩:=p;exact kia_one PySem.W.kitx_dict I.kIn ⟨o,h1,h2.1⟩ e (λz=>nomatch z) h
 |@dT a b8 ea=>
  cases (show u=Value.ref a from rx)
  obtain⟨_,_,xs,_,o,es,ep,h1,h2,_⟩:=(show bC X.prog X.w H s.heap a (.dT b8)from I.hok a _ ea);exact kia_one PySem.W.kitx_dict I.kIn ⟨o,h1,h2.1⟩ e (λz=>nomatch z) h
 |@ins a C dx fs ea cl ha hn CK hm=>
  cases (show u=Value.ref a from rx)
  obtain⟨mA,O,_⟩:=rB I.hok ea;obtain⟨od,J,_⟩:=O.look;exact kia_one (PySem.W.kitx_own (cl.get _) cl.hd ha hn CK hm) I.kIn J e (λz=>nomatch z) h
end
structure cD (k:Nat)(A:Around):Prop where
 hd:A.handled=none
 dp:A.depth+3*k+5<recursionLimit
 un:A.units+16*k+200<cLine
theorem cD.mono (r:cD k A)(h:j<=k):cD j A:=⟨r.hd,by have:=r.dp;omega,by have:=r.un;omega⟩
theorem cD.deeper (r:cD (k+1) A)(env:Env):cD k (A.deeper env) :=
 ⟨r.hd,by have:=r.dp;show A.depth+1+3*k+5<_;omega,by have:=r.un;show A.units+3+16*k+200<_;omega⟩
theorem qu {A:Around}{C:Addr}{us:List Value}{kw:List (Str×Value)}:(A.under (.builtin "type.__call__" ⟨.ref C::us,kw⟩)).depth=A.depth+1:=by
 first|rfl|simp[Around.under,Code.weight,Code.isCreation,Code.isGuard,Code.isCaller,Code.frames,Code.isFrame,guardIds]
theorem qv {A:Around}{C:Addr}{us:List Value}{kw:List (Str×Value)}:(A.under (.builtin "type.__call__" ⟨.ref C::us,kw⟩)).units=A.units+1:=by
 first|rfl|simp[Around.under,Code.cUnits,Code.frames,Code.isFrame]
theorem cD.make (r:cD (k+1) A)(C:Addr)(us:List Value)(kw:List (Str×Value)):cD k (A.under (.builtin "type.__call__" ⟨.ref C::us,kw⟩)) :=
 ⟨r.hd,by have:=r.dp;rw[qu];omega,by have:=r.un;rw[qv];omega⟩
theorem cD.depth (r:cD k A):A.depth<recursionLimit:=by have:=r.dp;omega
def tm:TA:=λ_ H Q=>Q [] H
def kl (ta:TE)(tr:TA):TA:=λσ H Q=>ta σ H λx H1=>tr σ H1 λxs H2=>Q (x::xs) H2
section
variable {X:Cx}{e:Expr}{es:List Expr}{te:TE}{t:TA}{pos:Pos}
theorem cS:PA X [] tm:=λ_ _ _ _ H Q I h=>Calls.spliced_nil ⟨[],H,I,.nil,h⟩
theorem bI (ha:PE X e te)(hr:PA X es t)(hs:starEach (e::es) X.env=(false,eval e X.env)::starEach es X.env:=by rfl):PA X (e::es) (kl te t):=by
 intro pos ac s σ H Q I h;rw[hs];show wpAny _ _ (spliced ((false,eval e X.env)::backTo pos (starEach es X.env))) _ _ s;refine Calls.spliced_cons (bX (ha ac s σ H _ I h) λu s1 ⟨x,H1,I1,r1,q1⟩=>?_);exact bX (hr pos ac s1 σ H1 _ I1 q1) λus s2 ⟨xs,H2,I2,r2,q2⟩=>⟨x::xs,H2,I2,.cons r1 r2,q2⟩
def G1 (t:TA):TE:=λσ H Q=>t σ H λxs H1=>xs.length<=sizeLine/\∀p,H1 p=none->Q (.ref p) (upd H1 p (.tup xs))
def G2 (t:TA):TE:=λσ H Q=>t σ H λxs H1=>xs.length<=sizeLine/\∀p,H1 p=none->Q (.ref p) (upd H1 p (.lst xs))
theorem Bc {x1}(h:PA X es t):PE X (.Tuple es x1 pos) (G1 t):=by
 intro ac s σ H Q I hq;refine wpAny_Tuple_spliced (bX (h pos ac s σ H _ I hq) λus s1 ⟨xs,H1,I1,r,z,q⟩=>⟨by rw[←r.length];exact z,?_⟩);have hf:H1 s1.heap.objs.size=none:=I1.hok.fresh (vT _);refine⟨.ref s1.heap.objs.size,upd H1 s1.heap.objs.size (.tup xs),I1.laid (t':=s1.toks) (λb u e=>vZ _ e) (vT _) ?_,rfl,q _ hf⟩;exact⟨z,us,r,⟨_,vY _ rfl,rfl,_,rfl⟩⟩
theorem Bd (h:PA X es t):PE X (.List es pos) (G2 t):=by
 intro ac s σ H Q I hq;refine wpAny_List_spliced (bX (h pos ac s σ H _ I hq) λus s1 ⟨xs,H1,I1,r,z,q⟩=>⟨by rw[←r.length];exact z,?_⟩);have hf:H1 s1.heap.objs.size=none:=I1.hok.fresh (vT _);refine⟨.ref s1.heap.objs.size,upd H1 s1.heap.objs.size (.lst xs),I1.laid (t':=s1.toks) (λb u e=>vZ _ e) (vT _) ?_,rfl,q _ hf⟩;exact⟨z,us,0,r,vY _ rfl⟩
end
abbrev Sp:=List V->Hp->VK->XK->Prop
abbrev xH:=List Env->Hp->Shared->XK->Value->Shared->Prop
structure Env0 (P:Program)(w:World)(K:Frag)(mg:Str->Option Value)(base:Heap)(A:Around)(outer:List Env)(s:Shared)(H:Hp):Prop where
 frames:A.frames=some outer
 mod:Mod K mg base
 bs:∀b o,base.get? b=some o->s.heap.get? b=some o/\H b=none
 bsz:base.objs.size<=s.heap.objs.size
 funs:s.heap.FunFrames base outer
 frf:∀b∈lC outer,H b=none
 hok:j0 P w H s.heap
 bare:AllBare s.gens
def CE (outer:List Env)(P:Program)(w:World)(H:Hp)(s:Shared)(Q:VK)(u:Value)(s':Shared):Prop :=
 ∃v H',s'.os=s.os/\AllBare s'.gens/\Un (lC outer) [] H H' s.heap s'.heap/\j0 P w H' s'.heap/\aI v u/\Q v H'
def CR (CX:xH)(outer:List Env)(P:Program)(w:World)(H:Hp)(s:Shared)(Q:VK)(E:XK)(r:Result)(s':Shared):Prop :=
 match r with
 |.ok (.ret u)=>CE outer P w H s Q u s'
 |.ok _=>False
 |.error e=>CX outer H s E e s'
structure eZ (P:Program)(w:World)(K:Frag)(mg:Str->Option Value)(base:Heap)(CX:xH)(k:Nat)(f:Addr)(fd:FuncData)(ps:List Str)(sp:Sp):Prop where
 len:∀vs H Q E,sp vs H Q E->vs.length=ps.length
 run:∀(A:Around)(outer:List Env)(s:Shared)(H:Hp)(args:Args)(us:List Value)(vs:List V)(Q:VK)(E:XK),cD k A->Env0 P w K mg base A outer s H->BindsTo s fd args (ps.zip us)->aT vs us->sp vs H Q E ->
  codeAny (model P w) A (.call (.ref f) args) (CR CX outer P w H s Q E) s
theorem eZ.imp {P:Program}{w:World}{K:Frag}{mg:Str->Option Value}{base:Heap}{CX:xH}{k:Nat}{f:Addr}{fd:FuncData}{ps:List Str}{sp IV:Sp}(F:eZ P w K mg base CX k f fd ps sp)
  (h:∀vs H Q E,IV vs H Q E->sp vs H Q E):eZ P w K mg base CX k f fd ps IV :=
 ⟨λvs H Q E q=>F.len vs H Q E (h _ _ _ _ q),λA outer s H args us vs Q E hr he hb hv hs=>F.run A outer s H args us vs Q E hr he hb hv (h _ _ _ _ hs)⟩
theorem Env0.make {P:Program}{w:World}{K:Frag}{mg:Str->Option Value}{base:Heap}{A:Around}{outer:List Env}{s:Shared}{H:Hp}(e:Env0 P w K mg base A outer s H)(C:Addr)(us:List Value)(kw:List (Str×Value)):
  Env0 P w K mg base (A.under (.builtin "type.__call__" ⟨.ref C::us,kw⟩)) outer s H:=⟨by first|exact e.frames|(simpa [Around.under,Code.envs,Code.isFrame,pushEnvs]using e.frames),e.mod,e.bs,e.bsz,e.funs,e.frf,e.hok,e.bare⟩
section
variable {X:Cx}{ac:List (Addr×Obj)}{σ:St}{H:Hp}{s s':Shared}
theorem Inv.env0 (I:Inv X ac σ H s):Env0 X.prog X.w X.K X.mg X.base X.A X.stack s H :=
 ⟨I.ok.frames,I.ok.mod,I.bs,vR I.ok.bsz I.sz,I.stack,I.stkFree,I.hok,I.bare⟩
theorem Inv.after (I:Inv X ac σ H s)(h:CE X.stack X.prog X.w H s Q u s'):EP X ac σ Q u s':=by
 obtain⟨v,H',os,bare,un,hok,r,q⟩:=h;obtain⟨hh,g,d,t,Hk⟩:=s';obtain rfl:Hk=s.os:=os;exact⟨v,H',I.call (h':=hh) (g':=g) (d':=d) (t':=t) (ch:=[]) un hok bare (λb z=>absurd z (by simp)),r,q⟩
end
def Ab (sp:Sp)(u0:List V)(E:XK)(t:TA):TE:=λσ H Q=>t σ H λvs H1=>sp (vs++u0) H1 Q E
def Iy (C:Addr)(m:Str)(sp:Sp)(u0:List V)(E:XK)(ta:TE)(t:TA):TE:=λσ H Q=>ta σ H λx H1=>∃a dx fs,x=.ref a/\H1 a=some (.ins C dx fs)/\fs.lookup m=none /\
 t σ H1 λvs H2=>sp (x::(vs++u0)) H2 Q E
def Iz (C:Addr)(sp:Sp)(u0:List V)(E:XK)(t:TA):TE:=λσ H Q=>t σ H λvs H1=>∀x dx,H1 x=none->H1 dx=none->dx≠x ->
 sp (.ref x::(vs++u0)) (upd (upd H1 dx (.own x)) x (.ins C dx [])) (λv H2=>v=.non/\Q (.ref x) H2) E
def eA (K:Frag)(fd:FuncData)(ps:List Str)(ds:List Value):Prop :=
 ∀(s:Shared)(us:List Value),K.In s.heap->(us++ds).length=ps.length->BindsTo s fd ⟨us,[]⟩ (ps.zip (us++ds))
theorem eA.all {K:Frag}{fd:FuncData}{ps:List Str}(h:∀us:List Value,us.length=ps.length->bindArgs fd ⟨us,[]⟩=pure (ps.zip us)):eA K fd ps []:=λs us _ hl=>by
 rw[uQ]at hl ⊢;exact .of_eq (h us hl)
def qw (CX:xH)(X:Cx)(E:XK):Prop:=∀(ac:List (Addr×Obj))(σ:St)(H:Hp)(s:Shared)(e:Value)(s':Shared),Inv X ac σ H s->CX X.stack H s E e s'->X.xe e s'
section
variable {X:Cx}{CX:xH}{k:Nat}{f C:Addr}{fd:FuncData}{ps:List Str}{sp:Sp}{u0:List V}{ds:List Value}{E:XK}{x m:Str}{p pos gW:Pos}{e o:Expr}{es:List Expr}{ta:TE}{t:TA}
theorem Be {ac:List (Addr×Obj)}{σ:St}{H:Hp}{s:Shared}{Q:VK}{us:List Value}{vs:List V}(F:eZ X.prog X.w X.K X.mg X.base CX k f fd ps sp)(hr:cD k X.A)(hb:eA X.K fd ps ds)(hd:aT u0 ds)(hx:qw CX X E)
  (I:Inv X ac σ H s) (r:aT vs us) (h:sp (vs++u0) H Q E):wq X (call (.ref f) us) (EP X ac σ Q) X.xe s:=by
 have r2:aT (vs++u0) (us++ds):=r.append hd;have hl:(us++ds).length=ps.length:=by rw[←r2.length];exact F.len _ _ _ _ h
 refine wpAny_call (codeAny_mono (F.run X.A X.stack s H ⟨us,[]⟩ (us++ds) (vs++u0) Q E hr I.env0 (hb s us I.kIn hl) r2 h) λr s' hq=>?_);cases r with
 |error e=>exact hx ac σ H s e s' I hq
 |ok fl=>
  cases fl with
  |ret u=>exact I.after hq
  |next=>exact False.elim hq
  |brk=>exact False.elim hq
  |cont=>exact False.elim hq
theorem rC (F:eZ X.prog X.w X.K X.mg X.base CX k f fd ps sp)(hr:cD k X.A)(hg:Gl X x)(hm:X.mg x=some (.ref f))(hk:PySem.W.keepIn X.K (.ref f)=true)(hb:eA X.K fd ps ds)(hd:aT u0 ds)(hx:qw CX X E)
  (ha:PA X (e::es) t) (lx:(x == ("__debug__" : Str))=false:=by decide) (he:starEach (e::es) X.env=(false,eval e X.env)::starEach es X.env:=by rfl) (hpl:(backTo pos (starEach es X.env)).any (·.1)=false:=by rfl):
  PE X (.Call (.Name x p) (e::es) [] pos) (Ab sp u0 E t):=by
 intro ac s σ H Q I h;refine wpAny_Call_Name_kw (iE I hg hm ?_ lx);refine PySem.W.callWith_K (h₀:=X.base) I.ok.mod.kin hk (bX (ha pos ac s σ H _ I h) λus s1 ⟨vs,H1,I1,r,q⟩=>⟨I1.kIn,?_⟩) he hpl;exact Be F hr hb hd hx I1 r q
end
structure FnScope (N P:List Str)(sc:Scope):Prop where
 kind:sc.kind=.function
 co:sc.isCoroutine=false
 gen:sc.isGenerator=false
 nd:N.Nodup
 pre:N.take P.length=P
 par:∀x∈P,sc.names.lookup x=some .local∨sc.names.lookup x=some .cell
 nofree:∀y∈sc.names,y.2≠.free
theorem lX {kindOf:Str->Option NameKind}{x:Str}:∀ {binds:List (Str×Value)}{m:Str->Option Value},(∀v,(x,v)∉binds)->bindL kindOf binds m x=m x
 |[],_,_=>rfl
 | (n,v)::r,m,h=>by
  unfold bindL;rw[lX λw hw=>h w (mZ _ hw)];split
  ·have:x≠n:=by rintro rfl;exact h v mX
   simp[this]
  ·rfl
theorem lY {kindOf:Str->Option NameKind}{x:Str}:∀ {binds:List (Str×Value)}{m:Str->Option Value},(∀v,(x,v)∉binds)->bindC kindOf binds m x=m x
 |[],_,_=>rfl
 | (n,v)::r,m,h=>by
  unfold bindC;rw[lY λw hw=>h w (mZ _ hw)];split
  ·rfl
  ·have:x≠n:=by rintro rfl;exact h v mX
   simp[this]
theorem lZ {kindOf:Str->Option NameKind}{x:Str}{v:Value}:∀ {P:List Str}{vs:List Value}{i:Nat}{m:Str->Option Value},P.Nodup->P[i]? = some x->vs[i]? = some v->kindOf x=some .local ->
  bindL kindOf (P.zip vs) m x=some v
 |[],_,_,_,_,h,_,_=>by simp at h
 |_::_,[],_,_,_,_,h,_=>by simp at h
 |p::P,w::vs,0,m,nd,h1,h2,hk=>by
  simp at h1 h2;subst h1;subst h2;show bindL kindOf ((p,w)::P.zip vs) m p=_;unfold bindL;rw[lX λv hv=>(List.nodup_cons.mp nd).1 (List.of_mem_zip hv).1,if_pos hk];simp
 |p::P,w::vs,i+1,m,nd,h1,h2,hk=>by
  show bindL kindOf ((p,w)::P.zip vs) m x=_;unfold bindL;exact lZ (i:=i) (List.nodup_cons.mp nd).2 (by simpa using h1) (by simpa using h2) hk
theorem ma {kindOf:Str->Option NameKind}{x:Str}{v:Value}:∀ {P:List Str}{vs:List Value}{i:Nat}{m:Str->Option Value},P.Nodup->P[i]? = some x->vs[i]? = some v->kindOf x≠some .local ->
  bindC kindOf (P.zip vs) m x=some v
 |[],_,_,_,_,h,_,_=>by simp at h
 |_::_,[],_,_,_,_,h,_=>by simp at h
 |p::P,w::vs,0,m,nd,h1,h2,hk=>by
  simp at h1 h2;subst h1;subst h2;show bindC kindOf ((p,w)::P.zip vs) m p=_;unfold bindC;rw[lY λv hv=>(List.nodup_cons.mp nd).1 (List.of_mem_zip hv).1,if_neg hk];simp
 |p::P,w::vs,i+1,m,nd,h1,h2,hk=>by
  show bindC kindOf ((p,w)::P.zip vs) m x=_;unfold bindC;exact ma (i:=i) (List.nodup_cons.mp nd).2 (by simpa using h1) (by simpa using h2) hk
noncomputable def cY (N:List Str)(vs:List V):St:=vs.map some++List.replicate (N.length - vs.length) none
noncomputable def eB (CX:xH)(P:Program)(w:World)(K:Frag)(mg:Str->Option Value)(base:Heap)(N:List Str)(qual:Str)(scope:Scope)(f:Addr)(cd:Value)(A:Around)(outer:List Env)(s:Shared)(H:Hp)(E:XK):Cx where
 prog:=P
 w:=w
 K:=K
 mg:=mg
 base:=base
 A:=A.deeper (envOfC qual scope s.heap.objs.size f cd)
 N:=N
 s₀:=s
 H₀:=H
 env:=envOfC qual scope s.heap.objs.size f cd
 outer:=outer
 stack:=envOfC qual scope s.heap.objs.size f cd::outer
 ex:=[]
 calm:=true
 fn:=λ_=>true
 pn:=[]
 xe:=λe s'=>wpAny (model P w) (A.deeper (envOfC qual scope s.heap.objs.size f cd)) (leaving (envOfC qual scope s.heap.objs.size f cd) e) (λ_ E7=>CX outer H s E e E7) (λe' E7=>CX outer H s E e' E7) s'
theorem ou {sc:Scope}{n:Nat}{x:Str}(h:sc.names.lookup x=some .cell):∃c,(cellsFrom n sc.names []).lookup x=some c:=by
 have q:=PySem.W.cellsFrom_some sc.names n [] (.inl h);exact Option.isSome_iff_exists.mp q
theorem tq {CX:xH}{P:Program}{w:World}{K:Frag}{mg:Str->Option Value}{base:Heap}{N ps:List Str}{qual:Str}{scope:Scope}{f:Addr}{cd:Value}{A:Around}{outer:List Env}{s s1:Shared}{H:Hp}{E:XK}{us:List Value}{vs:List V}
  (S:FnScope N ps scope) (hd:A.handled=none) (e0:Env0 P w K mg base A outer s H) (hl:vs.length=ps.length) (r:aT vs us)
  (x:InCallC s s.heap.objs.size (bindL (envOfC qual scope s.heap.objs.size f cd).kindOf (ps.zip us) λ_=>none) (cellsFrom (s.heap.objs.size+1) scope.names []) (bindC (envOfC qual scope s.heap.objs.size f cd).kindOf (ps.zip us) λ_=>none) s1):
  Inv (eB CX P w K mg base N qual scope f cd A outer s H E) [] (cY N vs) H s1:=by
 have hpl:ps.length<=N.length:=by have:=congrArg List.length S.pre;rw[List.length_take]at this;omega
 obtain⟨h1,tk,rfl,hk⟩:=x.done;have noA:∀b:Addr,b∉(eB CX P w K mg base N qual scope f cd A outer s H E).ex:=λb z=>absurd (show b∈([]:List Addr)from z) (by simp);refine⟨⟨e0.mod,S.kind,rfl,rfl,vT _,λy z c h1 h2=>?_,λy hy=>?_,λy c _ h=>?_,λ_=>hd,Around.frames_deeper e0.frames,.inr ⟨rfl,rfl⟩,λb z=>absurd z (noA b),e0.bs,e0.bsz,λb _ _=>noA b,λb z=>absurd z (noA b),e0.funs,e0.frf⟩,
  rfl,e0.bare,Un.kept hk,⟨_,x.toInCall.ns,λi y v h1 h2 h3=>?_⟩,λy c h=>⟨_,x.cell y c h⟩,e0.hok.fresh (vT _),λy c h=>?_,λp hp=>absurd (show p∈([]:List (Addr×Obj))from hp) (by simp),e0.hok.kept hk,?_⟩
 ·exact name_of_addr x.apart (PySem.mem_of_lookup h1) (PySem.mem_of_lookup h2)
 ·have hy:scope.names.lookup y=some .cell∨scope.names.lookup y=some .free:=hy;rcases hy with hy|hy
  ·exact ou hy
  ·exact absurd rfl (S.nofree _ (PySem.mem_of_lookup hy))
 ·exact Nat.le_of_lt (x.above y c (PySem.mem_of_lookup h))
 ·have hi:i<vs.length:=by
   unfold cY at h2;by_cases hi:i<vs.length
   ·exact hi
   ·rw[List.getElem?_append_right (by simpa using hi)]at h2;rw[List.getElem?_replicate]at h2;split at h2<;>cases h2
  have ha:vs[i]? = some v:=by
   unfold cY at h2;rw[List.getElem?_append_left (by simpa using hi),vA]at h2;cases e:vs[i]? with
   |none=>rw[e]at h2;cases h2
   |some a=>rw[e]at h2;cases h2;rfl
  obtain⟨u,hu,rv⟩:=r.get ha;have hp:ps[i]? = some y:=by
   rw[←S.pre,List.getElem?_take_of_lt (by omega)];exact h1
  have IW:ps.Nodup:=by rw[←S.pre];exact S.nd.sublist (List.take_sublist _ _)
  refine⟨u,rv,?_⟩;rcases S.par y (List.mem_of_getElem? hp)with k|k
  ·exact .inl ⟨k,lZ IW hp hu k⟩
  ·obtain⟨c,e⟩:=ou (n:=s.heap.objs.size+1) k;refine .inr ⟨.inl k,c,e,?_⟩;have q:=x.cell y c e;rw[ma IW hp hu (by show scope.names.lookup y≠_;rw[k];decide)]at q;exact q
 ·exact e0.hok.fresh (Nat.le_of_lt (x.above y c (PySem.mem_of_lookup h)))
 ·unfold cY;show _=N.length;rw[uZ,vH,List.length_replicate];omega
theorem rE {CX:xH}{P:Program}{w:World}{K:Frag}{mg:Str->Option Value}{base:Heap}{k:Nat}{f:Addr}{name qual:Str}{params:Arguments}{body:List Stmt}{scope:Scope}{dV kV doc pm bL ct oc:Value}{an od:Option Addr}
  {jy:Array (Option Value)}{N ps:List Str}{sp:Sp}(lk:K.lookup f=some ⟨oc,od,.func (fnOf name qual params body scope dV kV doc pm an bL ct),jy⟩) (gq:PySem.W.codeIn K bL qual=true) (S:FnScope N ps scope)
  (len:∀vs H Q E,sp vs H Q E->vs.length=ps.length)
  (xr:∀(A:Around)(outer:List Env)(s:Shared)(H:Hp)(vs:List V)(Q:VK)(E:XK),cD k (A.deeper (envOfC qual scope s.heap.objs.size f bL))->sp vs H Q E ->
   ∃t,kh (eB CX P w K mg base N qual scope f bL A outer s H E) body t/\t { nx:=λ_ H'=>Q .non H',rt:=Q } (cY N vs) H):
  eZ P w K mg base CX (k+1) f (fnOf name qual params body scope dV kV doc pm an bL ct) ps sp:=by
 refine⟨len,λA outer s H args us vs Q E hr e0 hb r A9=>?_⟩;have hl:=len _ _ _ _ A9;have KX:K.In s.heap:=e0.mod.kin.keeps λb o e=>(e0.bs b o e).1;have KQ:s.heap.NoLimit:=e0.mod.nolimit.keeps λb o e=>(e0.bs b o e).1;have E8:∀y∈ps.zip us,scope.names.lookup y.1=some .local∨(scope.names.lookup y.1=some .cell/\((cellsFrom (s.heap.objs.size+1) scope.names []).lookup y.1).isSome=true):=λ⟨n,v⟩ hy=>by
  rcases S.par n (List.of_mem_zip hy).1 with q|q
  ·exact .inl q
  ·exact .inr ⟨q,PySem.W.cellsFrom_some _ _ _ (.inl q)⟩
 refine codeAny_call_function hr.depth (KX _ _ lk) rfl S.co S.gen rfl (PySem.W.codeRec_of KX gq) (hb _ _ _ _ ?_);refine wpAny_newFunctionEnv_cells S.kind E8 λenv he s1 x=>?_;subst he;refine⟨KQ.keeps x.toInCall.keep,codeAny_func ?_⟩;obtain⟨t,ht,hq⟩:=xr A outer s H vs Q E (hr.deeper _) A9;have I:Inv (eB CX P w K mg base N qual scope f bL A outer s H E) [] (cY N vs) H s1:=tq S hr.hd e0 hl r x;refine wpAny_mono (ht [] s1 (cY N vs) H _ I hq) (λfl s' hs=>?_) λe s' hs=>hs;have g0:∀ {σ':St}{H':Hp}{v:V}{u:Value},Inv (eB CX P w K mg base N qual scope f bL A outer s H E) [] σ' H' s'->aI v u->Q v H'->CE outer P w H s Q u s' :=
  λ{σ' H' v u} J rv q=>⟨v,H',J.os,J.bare,J.base,J.hok,rv,q⟩
 cases fl with
 |ret u=>
  obtain⟨v,σ',H',J,rv,q⟩:=hs;exact g0 J rv q
 |next=>
  obtain⟨σ',H',J,q⟩:=hs;exact g0 (v:=V.non) (u:=Value.none) J rfl q
 |brk=>
  obtain⟨_,_,_,q⟩:=hs;exact False.elim q
 |cont=>
  obtain⟨_,_,_,q⟩:=hs;exact False.elim q
section
variable {X:Cx}{x:Str}{p pos:Pos}{e:Expr}{es:List Expr}{t:TA}{id T:String}{r:List V->Hp->VK->Prop}
def I0 (r:List V->Hp->VK->Prop)(t:TA):TE:=λσ H Q=>t σ H λvs H1=>r vs H1 Q
theorem fJ (hc:bM X (.builtin id) r)(hg:Gl X x)(hm:X.mg x=none)(hv:bootBuiltins x=some (.builtin id))(ha:PA X (e::es) t)(hn:x ≠ "__name__":=by decide)(lx:(x == ("__debug__" : Str))=false:=by decide)
  (he:starEach (e::es) X.env=(false,eval e X.env)::starEach es X.env:=by rfl) (hpl:(backTo pos (starEach es X.env)).any (·.1)=false:=by rfl):PE X (.Call (.Name x p) (e::es) [] pos) (I0 r t):=by
 intro ac s σ H Q I h;refine wpAny_Call_Name_kw (g6 I hg hm hv ?_ hn lx);exact PyProof.Rows.callWith_builtin1 (bX (ha pos ac s σ H _ I h) λus s1 ⟨vs,H1,I1,r1,q1⟩=>hc ac s1 σ H1 vs us Q I1 r1 q1) he hpl
theorem jj (hc:bM X (.type T) r)(hg:Gl X x)(hm:X.mg x=none)(hv:bootBuiltins x=some (.type T))(ha:PA X (e::es) t)(hn:x ≠ "__name__":=by decide)(lx:(x == ("__debug__" : Str))=false:=by decide)
  (he:starEach (e::es) X.env=(false,eval e X.env)::starEach es X.env:=by rfl) (hpl:(backTo pos (starEach es X.env)).any (·.1)=false:=by rfl):PE X (.Call (.Name x p) (e::es) [] pos) (I0 r t):=by
 intro ac s σ H Q I h;refine wpAny_Call_Name_kw (g6 I hg hm hv ?_ hn lx);exact PyProof.Rows.callWith_type1 (bX (ha pos ac s σ H _ I h) λus s1 ⟨vs,H1,I1,r1,q1⟩=>hc ac s1 σ H1 vs us Q I1 r1 q1) he hpl
end
end L2
namespace HT
open PySem PyProof.Rows
section
open PySem.SeqAt
open PySem.AutoSeq1 (wpAny_loadPart')
open PySem.MeetsSeq PySem.MeetsSeq2 PySem.MeetsSeq3
end
section
variable {prog:Program}{w:World}{A:Around}{E:Value->Shared->Prop}{s:Shared}
theorem yf (ht:IsTup s.heap t vs.toArray)(hb:IsTup s.heap b ws.toArray)(hv:vs≠[])
  (h1:ws=[]->Q (.ref t) s) (h2:ws≠[]->Q (.ref s.heap.objs.size) { s with heap:=s.heap.push { cls:=.type "tuple",data:=.seq (vs++ws).toArray } })
  (hsz:vs.length+ws.length<=sizeLine):wpAny (model prog w) A (binaryOp .Add (.ref t) (.ref b)) Q E s:=by
 obtain⟨⟨cls,dd,data,sl⟩,ho,hc,n,hd⟩:=id ht;obtain⟨⟨KR,IX,data2,FR⟩,CL,E9,n2,IY⟩:=id hb;simp only at hc hd E9 IY;subst hc hd E9 IY;have e:vs.toArray++ws.toArray=(vs++ws).toArray:=by simp
 by_cases hw:ws=[]
 ·exact concat_meets ⟨_,ho,rfl⟩ ⟨_,CL,rfl⟩ noFill_tuple_add seq_tuple_add PySem.F.slot_tuple_add PySem.F.entry_tuple_add (PySem.F.args_tuple_add_2 _ _)
   (tuple_addW1 t b vs.toArray ws.toArray n n2 dd IX sl FR (by simpa using hv) (by simp[hw])) ⟨ho,CL,h1 hw⟩
 ·refine concat_meets ⟨_,ho,rfl⟩ ⟨_,CL,rfl⟩ noFill_tuple_add seq_tuple_add PySem.F.slot_tuple_add PySem.F.entry_tuple_add (PySem.F.args_tuple_add_2 _ _)
   (tuple_addW2 t b vs.toArray ws.toArray n n2 dd IX sl FR (by simpa using hv) (by simpa using hw) (by rw[vG,vG];exact hsz)) ⟨ho,CL,?_⟩
  rw[e];exact h2 hw
noncomputable def c6 (n d:Nat):Option Int->Nat
 |none=>d
 |some v=>if v<0 then (v+(n:Int)).toNat else min v.toNat n
theorem oy (n d:Nat):c6 n d none=d:=rfl
theorem rF (n d k:Nat):c6 n d (some (k:Int))=min k n:=by
 show(if(k:Int)<0 then ((k:Int)+(n:Int)).toNat else min (k:Int).toNat n)=min k n;rw[if_neg (by omega),Int.toNat_natCast]
theorem Bf (n d:Nat)(hd:d<=n)(o:Option Int):c6 n d o<=n:=by
 cases o with
 |none=>exact hd
 |some v=>
  show(if v<0 then (v+(n:Int)).toNat else min v.toNat n)<=n;by_cases hv:v<0
  ·rw[if_pos hv];omega
  ·rw[if_neg hv];exact Nat.min_le_right _ _
theorem rG (v:Int)(n d:Nat):(if v<0 then max (v+(n:Int)) 0 else min v (n:Int))=((c6 n d (some v):Nat):Int):=by
 show(if v<0 then max (v+(n:Int)) 0 else min v (n:Int))=(((if v<0 then (v+(n:Int)).toNat else min v.toNat n):Nat):Int);by_cases hv:v<0
 ·simp only[if_pos hv];omega
 ·simp only[if_neg hv];omega
theorem qx (lo hi:Option Int)(n:Nat):Builtin.Slice.sliceAdjust lo hi 1 (n:Int)=(((c6 n 0 lo:Nat):Int),((c6 n n hi:Nat):Int)):=by
 have h1:¬((1:Int)<0):=by omega
 unfold Builtin.Slice.sliceAdjust;simp only[h1,if_false];refine Prod.ext ?_ ?_
 ·cases lo with
  |none=>rfl
  |some v=>exact rG v n 0
 ·cases hi with
  |none=>rfl
  |some v=>exact rG v n n
theorem qy (i j:Nat):Builtin.Slice.slicePlaces (i:Int) (j:Int) 1=j - i:=by
 unfold Builtin.Slice.slicePlaces;have h1:(1:Int) > 0:=by omega
 simp only[h1,if_true,Int.ediv_one];split<;>omega
theorem km (p:IsPart v o)(h:Q o s):wpAny (model prog w) A (Builtin.Slice.slicePartIndex v) Q E s:=by
 cases p with
 |none=>exact slicePart_none h
 |int i t=>exact slicePart_int h
theorem fK {sl:Addr}{vl vu:Value}{lo hi:Option Int}{n:Nat}{Q:Int×Int×Nat->Shared->Prop}(hs:s.heap.IsSliceOf sl vl vu .none)(pl:IsPart vl lo)(pu:IsPart vu hi)
  (h:Q (((c6 n 0 lo:Nat):Int),1,c6 n n hi - c6 n 0 lo) s):wpAny (model prog w) A (Builtin.Slice.sliceApplied (.ref sl) (pure (n:Int))) Q E s:=by
 obtain⟨os,z6,FU,Cg⟩:=id hs;unfold Builtin.Slice.sliceApplied Builtin.Slice.sliceFields;refine wX (wX (wpAny_field z6 Cg (x:=vl) rfl (wX (wpAny_field z6 Cg (x:=vu) rfl (wX (wpAny_field z6 Cg (x:=.none) rfl (wY ?_)))))));refine wX (slicePart_none ?_);show wpAny _ _ (if((1:Int) == 0)=true then _ else _) _ _ s;rw[if_neg (by decide)];refine wX (km pl (wX (km pu (wX (wY ?_)))));show wpAny _ _ (match Builtin.Slice.sliceAdjust lo hi 1 (n:Int) with|(lo,hi)=>pure (lo,(1:Int),Builtin.Slice.slicePlaces lo hi 1)) _ _ s;rw[qx lo hi n];show wpAny _ _ (pure (((c6 n 0 lo:Nat):Int),(1:Int),Builtin.Slice.slicePlaces ((c6 n 0 lo:Nat):Int) ((c6 n n hi:Nat):Int) 1)) _ _ s;rw[qy];exact wY h
theorem uI (xs:Array Value)(i k:Nat):((List.range k).filterMap λ(m:Nat)=>xs[((i:Int)+(m:Int)*1).toNat]?).toArray=((xs.toList.drop i).take k).toArray:=by
 have e:(λ(m:Nat)=>xs[((i:Int)+(m:Int)*1).toNat]?)=λm=>xs[i+m]?:=by
  funext m;have:((i:Int)+(m:Int)*1).toNat=i+m:=by omega
  rw[this]
 rw[e];have:=pick_run xs i k;rw[List.filterMap_map]at this;have e2:((λx=>xs[x]?) ∘ λx=>i+x)=λm=>xs[i+m]?:=rfl;rw[e2]at this;rw[this]
theorem iJ {t sl:Addr}{am:Array Value}{vl vu:Value}{lo hi:Option Int}{Q:Value->Shared->Prop}(ht:IsTup s.heap t am)(hs:s.heap.IsSliceOf sl vl vu .none)(pl:IsPart vl lo)(pu:IsPart vu hi)
  (hw:¬(c6 am.size 0 lo=0/\c6 am.size am.size hi=am.size))
  (h:Q (.ref s.heap.objs.size) { s with heap:=s.heap.push { cls:=.type "tuple",data:=.seq ((am.toList.drop (c6 am.size 0 lo)).take (c6 am.size am.size hi - c6 am.size 0 lo)).toArray } })
  (hsz:am.size<=sizeLine):wpAny (model prog w) A (getItem (.ref t) (.ref sl)) Q E s:=by
 have sQ:sizeOk (.seq ((am.toList.drop (c6 am.size 0 lo)).take (c6 am.size am.size hi - c6 am.size 0 lo)).toArray):=by
  show((am.toList.drop (c6 am.size 0 lo)).take (c6 am.size am.size hi - c6 am.size 0 lo)).toArray.size<=sizeLine
  rw[vG,List.length_take,List.length_drop,vF]
  omega
 have hj:c6 am.size am.size hi<=am.size:=Bf _ _ (vT _) hi
 obtain⟨os,z6,FU,Cg⟩:=id hs
 have KS:s.TypeIs (.ref sl) "slice":=⟨os,z6,FU⟩
 unfold getItem
 try with_reducible refine wpAny_holding ?_
 first|refine wX (wY ?_)|skip
 refine wX (wpAny_sequenceKey ht.typeIs (by decide) ?_)
 refine wX (wpAny_callSpecial?_slot (name:=Str.ofString "__getitem__") ht.typeIs PyProof.Rows.slot_tuple_getitem
  (wpAny_call_entry PyProof.Rows.slot_tuple_getitem ht.typeIs entry_tuple_getitem ?_ (args_tuple_getitem _ _)))
 show wpAny _ _ (Builtin.Tuple.tupleItemsOf (.ref t)>>=_) _ _ s
 refine wX (tupleItemsOf_ ht ?_)
 refine wX (wpAny_typeOf KS ?_)
 rw[if_pos (by decide)]
 refine wX (fK hs pl pu ?_)
 have CM:¬((((c6 am.size 0 lo:Nat):Int) == 0 && (1:Int) == 1 && (c6 am.size am.size hi - c6 am.size 0 lo) == am.size)=true):=by
  intro q
  rw[vC,vC]at q
  have q1:((c6 am.size 0 lo:Nat):Int)=0:=eq_of_beq q.1.1
  have q2:c6 am.size am.size hi - c6 am.size 0 lo=am.size:=eq_of_beq q.2
  exact hw ⟨by omega,by omega⟩
 show wpAny _ _ (if(((c6 am.size 0 lo:Nat):Int) == 0 && (1:Int) == 1 && (c6 am.size am.size hi - c6 am.size 0 lo) == am.size)=true then _ else _) _ _ s
 rw[if_neg CM,uI]
 first
  |exact wX (m:=Builtin.Tuple.tupleExact _) (wpAny_newObj_type (wY ⟨_,rfl,wY h⟩) sQ)
  |exact wX (m:=Builtin.Tuple.tupleExact _) (wpAny_newObj_type (wX (wY (wY ⟨_,rfl,wY h⟩))) sQ)
  |exact wX (wX (m:=Builtin.Tuple.tupleExact _) (wpAny_newObj_type (wY (wY ⟨_,rfl,wY h⟩)) sQ))
  |exact wX (wX (m:=Builtin.Tuple.tupleExact _) (wpAny_newObj_type (wY ⟨_,rfl,wY h⟩) sQ))
end
end HT
namespace L2
open PySem PySem.Spec PyProof.Rows
abbrev TO:=St->Hp->(Option Int->Hp->Prop)->Prop
def PO (X:Cx)(e:Option Expr)(t:TO):Prop :=
 ∀(ac:List (Addr×Obj))(s:Shared)(σ:St)(H:Hp)(Q:Option Int->Hp->Prop),Inv X ac σ H s->t σ H Q ->
  wq X (evalPart e X.env) (λu s'=>∃o H',Inv X ac σ H' s'/\IsPart u o/\Q o H') X.xe s
def yg:TO:=λ_ H Q=>Q none H
def D0 (t:TE):TO:=λσ H Q=>t σ H λx H1=>∃i,x=.int i/\Q (some i) H1
section
variable {X:Cx}{e:Expr}{te:TE}{lo hi:Option Expr}{tl th:TO}{pos p2:Pos}
theorem yh:PO X none yg:=by
 intro ac s σ H Q I h;rw[evalPart_none];exact wY ⟨none,H,I,.none,h⟩
theorem yi (h:PE X e te):PO X (some e) (D0 te):=by
 intro ac s σ H Q I hw;rw[evalPart_some];refine bX (h ac s σ H _ I hw) λu s1 ⟨x,H1,I1,r1,q1⟩=>?_;obtain⟨i,rfl,q⟩:=q1;obtain⟨t,rfl⟩:=r1;exact⟨some i,H1,I1,.int i t,q⟩
def uy (X:Cx)(r:V->Option Int->Option Int->Hp->VK->Prop):Prop :=
 ∀(ac:List (Addr×Obj))(s:Shared)(σ:St)(H:Hp)(x:V)(v vl vu:Value)(lo hi:Option Int)(sl:Addr)(Q:VK),Inv X ac σ H s->aI x v->s.heap.IsSliceOf sl vl vu .none->IsPart vl lo->IsPart vu hi->r x lo hi H Q ->
  ∃T id,typeLookup (.type T) "__getitem__" = pure (some (.builtin id))/\s.TypeIs v T/\wq X (getItem v (.ref sl)) (EP X ac σ Q) X.xe s
theorem uy.or (h:uy X r)(h':uy X r'):uy X (λx lo hi H Q=>r x lo hi H Q∨r' x lo hi H Q):=by
 intro ac s σ H x v vl vu lo hi sl Q I rx hs pl pu q;rcases q with q|q
 ·exact h ac s σ H x v vl vu lo hi sl Q I rx hs pl pu q
 ·exact h' ac s σ H x v vl vu lo hi sl Q I rx hs pl pu q
def Kj (r:V->Option Int->Option Int->Hp->VK->Prop)(te:TE)(tl th:TO):TE:=λσ H Q=>te σ H λx H1=>tl σ H1 λl H2=>th σ H2 λu H3=>r x l u H3 Q
theorem uJ (hr:uy X r)(he:PE X e te)(hl:PO X lo tl)(hu:PO X hi th):PE X (.Subscript e (.Slice lo hi none p2) pos) (Kj r te tl th):=by
 intro ac s σ H Q I h;refine Subscript_ (bX (he ac s σ H _ I h) λv s1 ⟨x,H1,I1,r1,q1⟩=>?_);refine wpAny_Slice (bX (hl ac s1 σ H1 _ I1 q1) λvl s2 ⟨l,H2,I2,pl,q2⟩=>bX (hu ac s2 σ H2 _ I2 q2) λvu s3 ⟨u,H3,I3,pu,q3⟩=>?_);rw[evalPart_none];refine wY ?_;have I4:Inv X ac σ H3 { s3 with heap:=s3.heap.push { cls:=.type "slice",data:=.fields #[vl,vu,.none] } }:=I3.kept (t':=s3.toks) λb ob q=>vZ _ q;obtain⟨T,id,hT,ht,hg⟩:=hr ac { s3 with heap:=s3.heap.push { cls:=.type "slice",data:=.fields #[vl,vu,.none] } } σ H3 x v vl vu l u s3.heap.objs.size Q I4 r1 (Heap.IsSliceOf.new ..) pl pu q3;show wq X (subscriptTail e (.Slice lo hi none p2) v (.ref s3.heap.objs.size)) (EP X ac σ Q) X.xe { s3 with heap:=s3.heap.push { cls:=.type "slice",data:=.fields #[vl,vu,.none] } };exact tail_any (ops:=[.ref s3.heap.objs.size,v]) ht hT hg (by with_unfolding_all rfl)
def lG (xs:List V)(lo hi:Option Int):List V:=(xs.drop (HT.c6 xs.length 0 lo)).take (HT.c6 xs.length xs.length hi - HT.c6 xs.length 0 lo)
theorem j4 (xs:List V)(lo hi:Option Int):(lG xs lo hi).length<=xs.length:=by
 unfold lG;rw[List.length_take,List.length_drop];omega
def G3 (K:Frag):V->Option Int->Option Int->Hp->VK->Prop:=λx lo hi H Q=>∃a xs,x=.ref a/\gb K H a xs /\
 ¬(HT.c6 xs.length 0 lo=0/\HT.c6 xs.length xs.length hi=xs.length)/\∀p,H p=none->Q (.ref p) (upd H p (.tup (lG xs lo hi)))
theorem Bg:uy X (G3 X.K):=by
 intro ac s σ H x v vl vu lo hi sl Q I rx hs pl pu h;obtain⟨a,xs,rfl,hx,hw,q⟩:=h;cases rx
 obtain⟨its,r,ht,hz⟩:=I.tuple hx;have bS:its.toArray.size=xs.length:=by rw[vG];exact r.length.symm
 refine⟨"tuple",_,PyProof.Rows.slot_tuple_getitem.lookup,ht.typeIs,?_⟩;refine HT.iJ ht hs pl pu (by rw[bS];exact hw) ?_ (by rw[bS];exact hz);rw[bS];refine⟨.ref s.heap.objs.size,_,I.laid (t':=s.toks) (o:=.tup (lG xs lo hi)) (λb ob q=>vZ _ q) (vT _) ?_,rfl,q _ (I.hok.fresh (vT _))⟩;exact⟨vR (j4 xs lo hi) hz,_,(r.drop (HT.c6 xs.length 0 lo)).take (HT.c6 xs.length xs.length hi - HT.c6 xs.length 0 lo),IsTup.new _ _⟩
def D4 (K:Frag):R2:=λx y H Q=>∃a b xs ys,x=.ref a/\y=.ref b/\gb K H a xs/\gb K H b ys/\xs≠[]/\xs.length+ys.length<=sizeLine /\
 (ys=[]->Q (.ref a) H)/\(ys≠[]->∀p,H p=none->Q (.ref p) (upd H p (.tup (xs++ys))))
theorem aT.nil_iff (r:aT xs us):us=[]↔xs=[]:=by
 cases r with
 |nil=>simp
 |cons _ _=>simp
theorem yj:cF X (binaryOp .Add) (D4 X.K):=by
 intro ac s σ H x y v u Q I rx ry h;obtain⟨a,b,xs,ys,rfl,rfl,ha,hb,hx,hz,q1,q2⟩:=h;cases rx
 cases ry
 obtain⟨its,r1,p1,_⟩:=I.tuple ha;obtain⟨uv,r2,p2,_⟩:=I.tuple hb;refine HT.yf p1 p2 (λz=>hx (r1.nil_iff.mp z)) (λz=>⟨.ref a,H,I,rfl,q1 (r2.nil_iff.mp z)⟩) (λz=>?_) (by rw[←r1.length,←r2.length];exact hz);refine⟨.ref s.heap.objs.size,_,I.laid (t':=s.toks) (o:=.tup (xs++ys)) (λb ob q=>vZ _ q) (vT _) ?_,rfl,q2 (λw=>z (r2.nil_iff.mpr w)) _ (I.hok.fresh (vT _))⟩;exact⟨by rw[uZ];exact hz,_,r1.append r2,IsTup.new _ _⟩
end
def Ac (n:Nat)(i:Int):Option Nat:=if 0<=i then (if i<n then some i.toNat else none)else if -(n:Int)<=i then some (i+n).toNat else none
def md {α:Type}(xs:List α)(i:Int):Option α:=(Ac xs.length i).bind λj=>xs[j]?
theorem yk (h:Ac n i=some j):seqIndex? i n=some j/\j<n/\-(n:Int)<=i/\i<n:=by
 unfold Ac at h;by_cases h0:0<=i
 ·rw[if_pos h0]at h;by_cases h1:i<n
  ·rw[if_pos h1]at h;have e:i.toNat=j:=vJ h;exact⟨by rw[seqIndex_of h0 h1,e],by omega,by omega,h1⟩
  ·rw[if_neg h1]at h;cases h
 ·rw[if_neg h0]at h;by_cases h1 : -(n:Int)<=i
  ·rw[if_pos h1]at h;have e:(i+n).toNat=j:=vJ h;exact⟨by rw[seqIndex_neg (by omega) h1,e],by omega,h1,by omega⟩
  ·rw[if_neg h1]at h;cases h
theorem mR {α:Type}{xs:List α}{i:Int}{v:α}(h:md xs i=some v):∃j,seqIndex? i xs.length=some j/\xs[j]? = some v/\j<xs.length/\-(xs.length:Int)<=i/\i<xs.length:=by
 unfold md at h;cases e:Ac xs.length i with
 |none=>rw[e]at h;cases h
 |some j=>
  rw[e]at h;obtain⟨h1,h2,h3,h4⟩:=yk e;exact⟨j,h1,h,h2,h3,h4⟩
theorem ym {α:Type}{xs:List α}{j:Nat}{v:α}(h:xs[j]? = some v):md xs (j:Int)=some v:=by
 have hj:j<xs.length:=(vV h).1;have e:Ac xs.length (j:Int)=some j:=by
  unfold Ac;rw[if_pos (by omega),if_pos (by omega)];simp
 unfold md;rw[e];exact h
def jW (b:Expr):Prop:=∀o i,subscripted b false o i=operate [o,i] (getItem o i)
def uK (X:Cx)(r:R2):Prop :=
 ∀(value slice:Expr)(ac:List (Addr×Obj))(s:Shared)(σ:St)(H:Hp)(x y:V)(v u:Value)(Q:VK),Inv X ac σ H s->aI x v->aI y u->r x y H Q ->
  subscripted slice false v u=operate [v,u] (getItem v u)->wq X (subscriptTail value slice v u) (EP X ac σ Q) X.xe s
def Bh (X:Cx)(id:String)(r:V->List V->Hp->VK->Prop):Prop :=
 ∀(ac:List (Addr×Obj))(s:Shared)(σ:St)(H:Hp)(x:V)(xs:List V)(v:Value)(us:List Value)(Q:VK),Inv X ac σ H s->aI x v->aT xs us->r x xs H Q ->
  wq X (call (.builtin id) (v::us)) (EP X ac σ Q) X.xe s
section
variable {X:Cx}{a b:Expr}{ta tb:TE}{pos:Pos}
theorem uK.or (h:uK X r)(h':uK X r'):uK X (λx y H Q=>r x y H Q∨r' x y H Q):=by
 intro value slice ac s σ H x y v u Q I rx ry q hs;rcases q with q|q
 ·exact h value slice ac s σ H x y v u Q I rx ry q hs
 ·exact h' value slice ac s σ H x y v u Q I rx ry q hs
theorem Bh.or {id:String}{r r':V->List V->Hp->VK->Prop}(h:Bh X id r)(h':Bh X id r'):Bh X id (λx xs H Q=>r x xs H Q∨r' x xs H Q):=by
 intro ac s σ H x xs v us Q I rx rs q;rcases q with q|q
 ·exact h ac s σ H x xs v us Q I rx rs q
 ·exact h' ac s σ H x xs v us Q I rx rs q
theorem uL (hr:uK X r)(ha:PE X a ta)(hb:PE X b tb)(hs:jW b):PE X (.Subscript a b pos) (F5 r ta tb):=by
 intro ac s σ H Q I h;exact Subscript_ (AW ha hb I h λv u s2 x y H2 I2 rx ry q=>hr a b ac s2 σ H2 x y v u Q I2 rx ry q (hs _ _))
def G4 (K:Frag):R2:=λx y H Q=>∃p xs i v,x=.ref p/\y=.int i/\fZ K H p xs/\md xs i=some v/\Q v H
def G5 (K:Frag):R2:=λx y H Q=>∃p xs i v,x=.ref p/\y=.int i/\gb K H p xs/\md xs i=some v/\Q v H
def G6:R2:=λx y H Q=>∃z i c,x=.str z/\y=.int i/\z.length<=sizeLine/\md z.cps.toList i=some c/\Q (.str ⟨#[c]⟩) H
theorem yn:uK X (G4 X.K):=by
 intro value slice ac s σ H x y v u Q I rx ry h hs;obtain⟨p,xs,i,z,rfl,rfl,hq,he,q⟩:=h;cases rx
 obtain⟨t,rfl⟩:=ry;obtain⟨its,r,pl,hz⟩:=I.list hq;obtain⟨j,h1,h2,h3,h4,h5⟩:=mR he;obtain⟨w,ew,EA⟩:=r.get h2;have hl:=r.length;have hn:=ki;have g0:EP X ac σ Q w s:=⟨z,H,I,EA,q⟩;by_cases h0:0<=i
 ·have hj:i.toNat=j:=by
   rw[seqIndex_of h0 h5]at h1;exact vJ h1
  exact item_listR pl.isList h0 (by omega) (by rw[hj];simpa using ew) g0 hs
 ·have hj:(i+(its.toArray.size:Int)).toNat=j:=by
   rw[seqIndex_neg (by omega) h4]at h1;rw[vG,←hl];exact vJ h1
  exact subscriptTail_builtinR (x:=w) pl.isList.typeIs slot_list_getitem.lookup
   (wpAny_getItem_list_neg (Q:=λr s'=>r=w/\EP X ac σ Q r s') pl.isList (by omega) (by rw[vG]<;>omega) (by omega) (by rw[hj];simpa using ew) ⟨rfl,g0⟩) hs
theorem uM:uK X (G5 X.K):=by
 intro value slice ac s σ H x y v u Q I rx ry h hs;obtain⟨p,xs,i,z,rfl,rfl,hq,he,q⟩:=h;cases rx
 obtain⟨t,rfl⟩:=ry;obtain⟨its,r,pl,hz⟩:=I.tuple hq;obtain⟨j,h1,h2,h3,h4,h5⟩:=mR he;obtain⟨w,ew,EA⟩:=r.get h2;have hl:=r.length;have hn:=ki;have g0:EP X ac σ Q w s:=⟨z,H,I,EA,q⟩;exact subscriptTail_builtinR (x:=w) pl.typeIs slot_tuple_getitem.lookup
  (getItem_tuple (j:=j) (Q:=λr s'=>r=w/\EP X ac σ Q r s') pl (by omega) (by omega) (by rw[vG,←hl];exact h1) (by simpa using ew) ⟨rfl,g0⟩) hs
theorem uO:uK X G6:=by
 intro value slice ac s σ H x y v u Q I rx ry h hs;obtain⟨z,i,c,rfl,rfl,hz,he,q⟩:=h;obtain⟨t,rfl⟩:=rx;obtain⟨t',rfl⟩:=ry;obtain⟨j,h1,h2,h3,h4,h5⟩:=mR he;have hl:z.cps.toList.length=z.length:=by simp[Str.length]
 rw[hl]at h1 h4 h5;have hn:=ki;exact tail_any (typeIs_str s z t) slot_str_getitem.lookup (getItem_str (c:=c) (by
  have e1:decide (i < -(2 ^ 63:Int))=false:=decide_eq_false (by omega);have e2:decide (i ≥ 2 ^ 63)=false:=decide_eq_false (by omega);rw[e1,e2,Bool.or_false]) (by rw[h1];simpa using h2) ⟨.str ⟨#[c]⟩,H,I.tok _,⟨_,rfl⟩,q⟩) hs
theorem Inv.lst (I:Inv X ac σ H s)(h:H p=some (.lst xs)):
  ∃(its:List Value)(n:Nat),aT xs its/\s.heap.get? p=some { cls:=.type "list",data:=.seq its.toArray n }/\xs.length<=sizeLine:=by
 obtain⟨z,its,n,r,e⟩:=I.hok p _ h;exact⟨its,n,r,e,z⟩
theorem mS (lo hi:Option Int)(n:Nat):(sliceBounds lo hi none n).1=((HT.c6 n 0 lo:Nat):Int)/\(sliceBounds lo hi none n).2.1=((HT.c6 n n hi:Nat):Int)/\(sliceBounds lo hi none n).2.2=1:=by
 refine⟨?_,?_,rfl⟩
 ·cases lo with
  |none=>simp[sliceBounds,HT.c6]
  |some i=>
   simp only[sliceBounds,HT.c6,Option.getD_none,show(1:Int) > 0 by decide,if_true];by_cases h:i<0
   ·simp only[h,if_true]<;>omega
   ·simp only[h,if_false]<;>omega
 ·cases hi with
  |none=>simp[sliceBounds,HT.c6]
  |some i=>
   simp only[sliceBounds,HT.c6,Option.getD_none,show(1:Int) > 0 by decide,if_true];by_cases h:i<0
   ·simp only[h,if_true]<;>omega
   ·simp only[h,if_false]<;>omega
theorem lH (its:List Value)(lo hi:Option Int):slicePick its.toArray lo hi none=((its.drop (HT.c6 its.length 0 lo)).take (HT.c6 its.length its.length hi - HT.c6 its.length 0 lo)).toArray:=by
 obtain⟨h1,h2,h3⟩:=mS lo hi its.toArray.size;unfold slicePick;rw[h1,h2,h3];simp only[sliceRange_one,pick_run,vG]<;>rfl
def G7 (K:Frag):V->Option Int->Option Int->Hp->VK->Prop:=λx lo hi H Q=>∃a xs,x=.ref a/\fZ K H a xs/\∀p,H p=none->Q (.ref p) (upd H p (.lst (lG xs lo hi)))
theorem yo:uy X (G7 X.K):=by
 intro ac s σ H x v vl vu lo hi sl Q I rx hs pl pu h;obtain⟨a,xs,rfl,hx,q⟩:=h;cases rx
 obtain⟨its,r,ht,hz⟩:=I.list hx;have bS:=r.length;refine⟨"list",_,slot_list_getitem.lookup,ht.isList.typeIs,?_⟩;refine wpAny_getItem_list_slice ht.isList hs pl pu .none (by simp) ?_ (by rw[vG]<;>omega)
 rw[lH,←bS];refine⟨.ref s.heap.objs.size,_,I.laid (t':=s.toks) (o:=.lst (lG xs lo hi)) (λb ob q=>vZ _ q) (vT _) ?_,rfl,q _ (I.hok.fresh (vT _))⟩;exact⟨vR (j4 xs lo hi) hz,_,0,(r.drop (HT.c6 xs.length 0 lo)).take (HT.c6 xs.length xs.length hi - HT.c6 xs.length 0 lo),vY _ rfl⟩
noncomputable def gX:V->Bool
 |.non=>true
 |.bl _=>true
 |.int _=>true
 |.str _=>true
 |_=>false
def xI:V->V->Bool
 |.non,.non=>true
 |.bl a,.bl b=>a == b
 |.bl a,.int b=>(if a then 1 else 0) == b
 |.int a,.bl b=>a == (if b then 1 else 0)
 |.int a,.int b=>a == b
 |.str a,.str b=>a == b
 |_,_=>false
theorem Bi (ry:aI y u)(rx:aI x v)(fy:gX y=true)(fx:gX x=true):SeqAt.EqAt A s u v (xI y x):=by
 cases y with
 |non=>
  cases ry
  cases x with
  |non=>cases rx;exact SeqAt.EqAt.same _
  |bl b=>cases rx;exact SeqAt.EqAt.none_bool b
  |int b=>obtain⟨t,rfl⟩:=rx;exact SeqAt.EqAt.none_int b t
  |str b=>obtain⟨t,rfl⟩:=rx;exact SeqAt.EqAt.none_str b t
  |_=>exact absurd (show false=true from fx) uX
 |bl a=>
  cases ry
  cases x with
  |non=>cases rx;exact SeqAt.EqAt.bool_none a
  |bl b=>cases rx;exact SeqAt.EqAt.bool_bool a b
  |int b=>obtain⟨t,rfl⟩:=rx;exact SeqAt.EqAt.bool_int a b t
  |str b=>obtain⟨t,rfl⟩:=rx;exact SeqAt.EqAt.bool_str a b t
  |_=>exact absurd (show false=true from fx) uX
 |int a=>
  obtain⟨t',rfl⟩:=ry;cases x with
  |non=>cases rx;exact SeqAt.EqAt.int_none a t'
  |bl b=>cases rx;exact SeqAt.EqAt.int_bool a t' b
  |int b=>obtain⟨t,rfl⟩:=rx;exact SeqAt.EqAt.int_int a t' b t
  |str b=>obtain⟨t,rfl⟩:=rx;exact SeqAt.EqAt.int_str a t' b t
  |_=>exact absurd (show false=true from fx) uX
 |str a=>
  obtain⟨t',rfl⟩:=ry;cases x with
  |non=>cases rx;exact SeqAt.EqAt.str_none a t'
  |bl b=>cases rx;exact SeqAt.EqAt.str_bool a t' b
  |int b=>obtain⟨t,rfl⟩:=rx;exact SeqAt.EqAt.str_int a t' b t
  |str b=>obtain⟨t,rfl⟩:=rx;exact SeqAt.EqAt.str_str a t' b t
  |_=>exact absurd (show false=true from fx) uX
 |_=>exact absurd (show false=true from fy) uX
def yp (x:V)(u:Value):Bool:=match u with
 |.none=>xI .non x
 |.bool b=>xI (.bl b) x
 |.int i _=>xI (.int i) x
 |.str z _=>xI (.str z) x
 |_=>false
theorem uP (r:aI y u)(f:gX y=true):yp x u=xI y x:=by
 cases y with
 |non=>cases r;rfl
 |bl b=>cases r;rfl
 |int i=>obtain⟨t,rfl⟩:=r;rfl
 |str z=>obtain⟨t,rfl⟩:=r;rfl
 |_=>exact absurd (show false=true from f) uX
theorem mT:∀ {xs:List V}{us:List Value},aT xs us->xs.all gX=true->us.any (yp x)=xs.any λy=>xI y x
 |_,_,.nil,_=>rfl
 |y::xs,u::us,.cons r t,f=>by
  rw[List.all_cons,vC]at f;rw[List.any_cons,List.any_cons,uP r f.1,mT t f.2]
theorem kn (rx:aI x v)(fx:gX x=true):∀ {xs:List V}{us:List Value},aT xs us->xs.all gX=true->∀u∈us,SeqAt.EqAt A s u v (yp x u)
 |_,_,.nil,_=>λu hu=>by cases hu
 |y::xs,u::us,.cons r t,f=>λu' hu=>by
  rw[List.all_cons,vC]at f;rcases vP hu with rfl|hu
  ·rw[uP r f.1];exact Bi r rx f.1 fx
  ·exact kn rx fx t f.2 u' hu
noncomputable def F6 (x:V)(xs:List V):Bool:=xs.any λy=>xI y x
def Kk (K:Frag)(KU:Bool):R2:=λx y H Q=>∃p xs,y=.ref p/\(fZ K H p xs∨gb K H p xs)/\gX x=true/\xs.all gX=true/\Q (.bl (if KU then !F6 x xs else F6 x xs)) H
theorem tt:cF X (compareOp .In) (Kk X.K false):=by
 intro ac s σ H x y v u Q I rx ry h;obtain⟨p,xs,rfl,hq,fx,fs,q⟩:=h;cases ry
 rcases hq with hq|hq
 ·obtain⟨its,r,pl,hz⟩:=I.list hq;refine SeqAt.in_listAt (yp x) pl.isList (λw hw=>kn rx fx r fs w (by simpa using hw)) ⟨.bl _,H,I,rfl,?_⟩;rw[show its.toArray.any (yp x)=its.any (yp x) by simp,mT r fs];exact q
 ·obtain⟨its,r,pl,hz⟩:=I.tuple hq;refine SeqAt.in_tupleAt (yp x) pl (λw hw=>kn rx fx r fs w (by simpa using hw)) ⟨.bl _,H,I,rfl,?_⟩;rw[show its.toArray.any (yp x)=its.any (yp x) by simp,mT r fs];exact q
theorem mU:bM X (.builtin "len") (λxs H Q=>∃p ys,xs=[.ref p]/\(fZ X.K H p ys∨gb X.K H p ys)/\Q (.int ys.length) H):=by
 intro ac s σ H xs us Q I r h;obtain⟨p,ys,rfl,hq,q⟩:=h;obtain⟨u,rfl,rx⟩:=kj r;cases rx
 have hn:=ki;rcases hq with hq|hq
 ·obtain⟨its,r',pl,hz⟩:=I.list hq;have bS:=r'.length;exact Calls.call_len_list pl.isList (by simp only[vG]<;>omega) ⟨.int ys.length,H,I.tok _,⟨s.toks+1,by rw[vG,bS]⟩,q⟩
 ·obtain⟨its,r',pl,hz⟩:=I.tuple hq;have bS:=r'.length;exact len_tuple pl (by simp only[vG]<;>omega) ⟨.int ys.length,H,I.tok _,⟨s.toks+1,by rw[vG,bS]⟩,q⟩
theorem mV:bM X (.builtin "len") (λxs H Q=>∃z,xs=[.str z]/\z.length<=sizeLine/\Q (.int z.length) H):=by
 intro ac s σ H xs us Q I r h;obtain⟨z,rfl,hz,q⟩:=h;obtain⟨u,rfl,t,rfl⟩:=kj r;have hn:=ki;exact len_str (by omega) ⟨.int z.length,H,I.tok _,⟨_,rfl⟩,q⟩
theorem bM.or (h:bM X f r)(h':bM X f r'):bM X f (λxs H Q=>r xs H Q∨r' xs H Q):=by
 intro ac s σ H xs us Q I rs q;rcases q with q|q
 ·exact h ac s σ H xs us Q I rs q
 ·exact h' ac s σ H xs us Q I rs q
theorem lI:bM X (.type "tuple") (λxs H Q=>∃p ys,xs=[.ref p]/\((fZ X.K H p ys/\∀l,H l=none->Q (.ref l) (upd H l (.tup ys)))∨(gb X.K H p ys/\Q (.ref p) H))):=by
 intro ac s σ H xs us Q I r h;obtain⟨p,ys,rfl,h⟩:=h;obtain⟨u,rfl,rx⟩:=kj r;cases rx
 rcases h with⟨hq,q⟩|⟨hq,q⟩
 ·obtain⟨its,r',pl,hz⟩:=I.list hq;have bS:=r'.length;refine call_tuple_list pl.isList (λh' kp=>?_) (by simp only[vG]<;>omega)
  have I1:Inv X ac σ H { s with heap:=h' }:=I.kept (t':=s.toks) kp;have I2:Inv X ac σ (upd H h'.objs.size (.tup ys)) { s with heap:=h'.push { cls:=.type "tuple",data:=.seq its.toArray } } :=
   I1.laid (t':=s.toks) (λb o e=>vZ _ e) (vT _) (show bC X.prog X.w _ _ _ (.tup ys)from ⟨hz,its,r',IsTup.new _ _⟩)
  exact⟨.ref h'.objs.size,_,I2,rfl,q _ (I1.hok.fresh (vT _))⟩
 ·obtain⟨its,r',pl,hz⟩:=I.tuple hq;exact call_tuple_same pl ⟨.ref p,H,I,rfl,q⟩
def IB (K:Frag)(T:String)(x:V)(H:Hp):Prop:=match x with
 |.str _=>T = "str"
 |.int _=>T = "int"
 |.ref p=>(T = "list"/\∃xs,fZ K H p xs)∨(T = "tuple"/\∃o,K.lookup p=some o/\o.cls=.type "tuple"/\o.dict=none) ∨
   (T = "dict"/\((∃b8 ob,H p=some (.dK b8 ob))∨∃b8,H p=some (.dT b8)))∨(T = "set"/\∃S n,H p=some (.set S n))
 |_=>False
theorem Bj (I:Inv X ac σ H s)(r:aI x v)(ty:IB X.K T x H):
  s.TypeIs v T/\∀a,v=.ref a->∃ob,s.heap.get? a=some ob/\ob.dict=none:=by
 cases x with
 |str z=>
  obtain⟨t,rfl⟩:=r;cases (show T = "str" from ty)
  exact⟨typeIs_str s z t,λ_ e=>nomatch e⟩
 |int i=>
  obtain⟨t,rfl⟩:=r;cases (show T = "int" from ty)
  exact⟨typeIs_int s i t,λ_ e=>nomatch e⟩
 |ref p=>
  cases r
  rcases ty with⟨rfl,xs,hq⟩|⟨rfl,o,hk,hc,hd⟩|⟨rfl,hk⟩|⟨rfl,S,n,hk⟩
  ·obtain⟨its,_,pl,_⟩:=I.list hq;refine⟨pl.isList.typeIs,λa e=>?_⟩;cases e
   obtain⟨o,n,e,c,hd,_⟩:=pl;exact⟨o,e,hd⟩
  ·refine⟨⟨o,I.kIn p o hk,hc⟩,λa e=>?_⟩;cases e
   exact⟨o,I.kIn _ o hk,hd⟩
  ·have z:∃o,s.heap.get? p=some o/\o.ExactDict:=by
    rcases hk with⟨b8,KL,hk⟩|⟨b8,hk⟩
    ·obtain⟨_,_,_,_,_,o,_,_,e,ex,_⟩:=I.hok p _ hk;exact⟨o,e,ex⟩
    ·obtain⟨_,_,_,_,o,_,_,e,ex,_⟩:=I.hok p _ hk;exact⟨o,e,ex⟩
   obtain⟨o,e,ex⟩:=z;refine⟨⟨o,e,ex.1⟩,λa e2=>?_⟩;cases e2
   exact⟨o,e,ex.2.1⟩
  ·obtain⟨o,_,_,_,e,ex,_⟩:=I.hok p _ hk;refine⟨⟨o,e,ex.1⟩,λa e2=>?_⟩;cases e2
   exact⟨o,e,ex.2.1⟩
 |_=>exact False.elim ty
def Kl (K:Frag)(T:String)(r:V->List V->Hp->VK->Prop)(to:TE)(t:TA):TE:=λσ H Q=>to σ H λx H1=>IB K T x H1/\t σ H1 λxs H2=>r x xs H2 Q
variable {o e:Expr}{es:List Expr}{to:TE}{t:TA}{name:Str}{gW cW:Pos}{T id:String}{r:V->List V->Hp->VK->Prop}
theorem uS (pa:PlainAttrs T)(slot:Slot T name id)(CN:typeOf (.builtin id)=pure (.type "method_descriptor"))(hm:Bh X id r)(ho:PE X o to)(ha:PA X (e::es) t)
  (ly:attributeBase o name X.env (eval o X.env)=eval o X.env:=by rfl)
  (rl:((backTo cW (starEach (e::es) X.env)).all (λx=>!x.1) && (backToKw cW (keywordEach [] X.env)).all (λx=>x.1.isSome)
   && decide ((e::es).length+([]:List Keyword).length+(if([]:List Keyword).isEmpty then 0 else 1)<30))=true:=by rfl)
  (l5:(gW.endLine == cW.line)=true:=by rfl) (hs:starEach (e::es) X.env=(false,eval e X.env)::starEach es X.env:=by rfl) (Ch:(backTo cW (starEach es X.env)).any (·.1)=false:=by rfl):
  PE X (.Call (.Attribute o name gW) (e::es) [] cW) (Kl X.K T r to t):=by
 intro ac s σ H Q I h;refine wpAny_Call_method_late ly rl l5 rfl (bX (ho ac s σ H _ I h) λv s1 ⟨x,H1,I1,r1,ty,q1⟩=>?_);obtain⟨h1,h2⟩:=Bj I1 r1 ty;refine⟨T,id,pa,slot,CN,h1,h2,?_⟩;have hA:=ha cW ac s1 σ H1 _ I1 q1;rw[hs]at hA ⊢;refine Calls.callWith_builtin (by show(false || (backTo cW (starEach es X.env)).any (·.1))=false;rw[Ch]<;>rfl) (Calls.evalArgs_plain ?_)
 exact bX hA λus s2 ⟨vs,H2,I2,r2,q2⟩=>hm ac s2 σ H2 x vs v us Q I2 r1 r2 q2
/- xs.append(e),list.index on a module's tuple .. are Bh facts of 06m -/
end
def IC (X:Cx)(id:String)(r:V->List V->Hp->VK->Prop):Prop :=
 ∀(ac:List (Addr×Obj))(s:Shared)(σ:St)(H:Hp)(x:V)(xs:List V)(v:Value)(us:List Value)(Q:VK),Inv X ac σ H s->aI x v->aT xs us->r x xs H Q ->
  wq X (call (.builtin id) (v::us)) (EP X ac σ Q) X.xe s
theorem aT.one {x:V}{us:List Value}(h:aT [x] us):∃u,us=[u]/\aI x u:=by
 cases h with
 |cons r h=>cases h;exact⟨_,rfl,r⟩
theorem aT.two {x y:V}{us:List Value}(h:aT [x,y] us):∃u v,us=[u,v]/\aI x u/\aI y v:=by
 cases h with
 |cons r h=>
  obtain⟨v,rfl,q⟩:=aT.one h;exact⟨_,_,rfl,r,q⟩
theorem aT.zero:∀ {us:List Value},aT [] us->us=[]
 |_,.nil=>rfl
theorem aT.rep (h:aT xs us):∀k:Nat,aT (List.replicate k xs).flatten (List.replicate k us).flatten
 |0=>.nil
 |k+1=>by
  rw[List.replicate_succ,List.replicate_succ,List.flatten_cons,List.flatten_cons];exact aT.append h (aT.rep h k)
theorem me (its:List Value):∀(k:Nat)(je:List Value),
  List.foldl (λx1 x2=>x1++x2) je.toArray (List.replicate k its.toArray)=(je++(List.replicate k its).flatten).toArray
 |0,je=>by simp
 |k+1,je=>by
  have e:je.toArray++its.toArray=(je++its).toArray:=by simp
  have e2:(je++its)++(List.replicate k its).flatten=je++(List.replicate (k+1) its).flatten:=by
   rw[List.replicate_succ,List.flatten_cons,List.append_assoc]
  rw[←e2,←me its k (je++its),←e,List.replicate_succ,List.foldl_cons]
section
variable {X:Cx}{ac:List (Addr×Obj)}{σ:St}{H:Hp}{s:Shared}{l b:Addr}{xs ys zs:List V}
theorem Inv.lset {its its':List Value}{n:Nat}{f:Array Value->Array Value}{t':Nat}(I:Inv X ac σ H s)(hH:H l=some (.lst xs))
  (e:s.heap.get? l=some { cls:=.type "list",data:=.seq its.toArray n }) (hf:f its.toArray=its'.toArray) (hv:aT ys its') (hz:ys.length<=sizeLine):
  Inv X ac σ (upd H l (.lst ys)) { s with heap:=s.heap.update l (Obj.mapSeq f),toks:=t' }:=by
 have q:=PySem.IsL.update e f;rw[hf]at q;refine I.write (x:=l) (e:=l) (by rw[hH];exact trivial) (.inl rfl) (λb' u hb hu=>(Heap.get?_update_other s.heap (Obj.mapSeq f) (Ne.symm hb)).trans hu) ⟨_,q⟩ ?_;exact⟨hz,its',_,hv,q⟩
theorem Inv.lnew (I:Inv X ac σ H s)(hv:aT ys its)(hz:ys.length<=sizeLine):
  Inv X ac σ (upd H s.heap.objs.size (.lst ys)) { s with heap:=s.heap.push { cls:=.type "list",data:=.seq its.toArray },toks:=t' } :=
 I.laid (λ_ _ q=>vZ _ q) (vT _) ⟨hz,its,0,hv,vY _ rfl⟩
theorem Inv.fresh (I:Inv X ac σ H s):H s.heap.objs.size=none:=I.hok.fresh (vT _)
theorem Inv.lstM (I:Inv X ac σ H s)(hH:H l=some (.lst xs)):xs.length<=sizeLine/\∃(its:List Value)(n:Nat),aT xs its/\xs.length=its.length/\s.heap.get? l=some { cls:=.type "list",data:=.seq its.toArray n }:=by
 obtain⟨z,its,n,r,e⟩:=I.hok l _ hH;exact⟨z,its,n,r,r.length,e⟩
theorem o0 (h:n<=sizeLine):Builtin.List.listTooLong n=false:=by
 unfold Builtin.List.listTooLong;exact decide_eq_false (by omega)
end
section
variable {X:Cx}
def rH:V->List V->Hp->VK->Prop:=λx vs H Q=>∃l xs y,x=.ref l/\vs=[y]/\H l=some (.lst xs)/\xs.length<sizeLine/\Q .non (upd H l (.lst (xs++[y])))
theorem mf:IC X "list.append" rH:=by
 intro ac s σ H x vs v us Q I rx rv h;obtain⟨l,xs,y,rfl,rfl,hH,hz,q⟩:=h;cases rx
 obtain⟨u,rfl,ru⟩:=rv.one;obtain⟨z,its,n,r,hl,e⟩:=I.lstM hH;refine call_meets F.slot_list_append ⟨_,e,rfl⟩ F.entry_list_append (F.args_list_append_2 _ _) (PySem.list_append l its.toArray n u (by rw[vG];omega)) ⟨e,?_⟩;refine⟨.non,_,I.lset (its':=its++[u]) hH e (by simp) (r.append (.cons ru .nil)) ?_,rfl,q⟩;rw[uZ,List.length_singleton];omega
def yq:V->List V->Hp->VK->Prop:=λx vs H Q=>∃l b xs zs,x=.ref l/\vs=[.ref b]/\H l=some (.lst xs)/\H b=some (.lst zs)/\xs.length+zs.length<=sizeLine/\Q .non (upd H l (.lst (xs++zs)))
theorem tu:IC X "list.extend" yq:=by
 intro ac s σ H x vs v us Q I rx rv h;obtain⟨l,b,xs,zs,rfl,rfl,hH,hB,hz,q⟩:=h;cases rx
 obtain⟨u,rfl,ru⟩:=rv.one;cases ru
 obtain⟨z,its,n,r,hl,e⟩:=I.lstM hH;obtain⟨z2,uv,n2,r2,Hl,e2⟩:=I.lstM hB;have hsz:its.toArray.size+uv.toArray.size<=sizeLine:=by rw[vG,vG];omega
 have xu:¬(!its.toArray.isEmpty && Builtin.List.listTooLong (its.toArray.size+uv.toArray.size))=true:=by
  rw[o0 hsz,Bool.and_false];exact uX
 refine call_meets F.slot_list_extend ⟨_,e,rfl⟩ F.entry_list_extend (F.args_list_extend_2 _ _)
  (AutoSeq1.list_extend_list_list_0 l its.toArray n b uv.toArray n2 xu (by rw[vG];omega) (by omega)) ⟨e,e2,?_⟩
 refine⟨.non,_,I.lset (its':=its++uv) hH e (by simp) (r.append r2) ?_,rfl,q⟩;rw[uZ];omega
def G8:R2:=λx y H Q=>∃l k xs,x=.ref l/\y=.int k/\H l=some (.lst xs)/\-(2 ^ 63)<=k/\k<2 ^ 63/\xs.length*k.toNat<=sizeLine /\
 ∀p,H p=none->Q (.ref p) (upd H p (.lst (List.replicate k.toNat xs).flatten))
theorem yr {α:Type}(xs:List α)(k:Nat):(List.replicate k xs).flatten.length=k*xs.length:=by
 induction k with
 |zero=>simp
 |succ k ih=>rw[List.replicate_succ,List.flatten_cons,uZ,ih,Nat.succ_mul,Nat.add_comm]
theorem Bk:cF X (binaryOp .Mult) G8:=by
 intro ac s σ H x y v u Q I rx ry h;obtain⟨l,k,xs,rfl,rfl,hH,h1,h2,hz,q⟩:=h;cases rx
 obtain⟨t,rfl⟩:=ry;obtain⟨z,its,n,r,hl,e⟩:=I.lstM hH;have bS:its.toArray.size*k.toNat<=sizeLine:=by rw[vG,←hl];exact hz
 have Hm:¬its.toArray.size*k.toNat > (2 ^ 63 - 1) / 8:=by
  have:(sizeLine:Nat)<=(2 ^ 63 - 1) / 8:=by decide
  omega
 have Hn:¬(!Builtin.List.listFitsIndex k)=true:=by
  rw[fitsIndex_both h1 h2];exact uX
 have xu:¬Builtin.List.listTooLong (its.toArray.size*k.toNat)=true:=by
  rw[o0 bS];exact uX
 have Ho:List.foldl (λx1 x2=>x1++x2) #[] (List.replicate (if its.toArray.isEmpty=true then 0 else k.toNat) its.toArray)=(List.replicate k.toNat its).flatten.toArray:=by
  have f0:∀m:Nat,List.foldl (λx1 x2=>x1++x2) #[] (List.replicate m its.toArray)=(List.replicate m its).flatten.toArray:=λm=>by
   have:=me its m [];rw[List.nil_append]at this;exact this
  rw[f0];cases its with
  |nil=>simp
  |cons a r'=>rw[if_neg (by simp)]
 refine wpAny_binaryOp_repeat_ref (T:="list") (U:="int") (by decide) ⟨_,e,rfl⟩ (λs'=>typeIs_int s' k t) noFill_list_mul F.fills_int_mul F.slot_int_rmul repeat_list F.slot_int_index.lookup
  (call_meets F.slot_int_rmul (typeIs_int s k t) F.entry_int_rmul (F.args_int_rmul_2 _ _) (int___rmul___int_list k t l its.toArray n)
   ⟨e,rfl,⟨_,e,rfl⟩,call_meets F.slot_list_mul ⟨_,e,rfl⟩ F.entry_list_mul (F.args_list_mul_2 _ _) (AutoListH.list___mul___list_int_3 l its.toArray n k t Hn Hm xu) ⟨e,?_⟩⟩)
 rw[Ho];exact⟨.ref _,_,I.lnew (t':=s.toks) (r.rep k.toNat) (by rw[yr,Nat.mul_comm];exact hz),rfl,q _ I.fresh⟩
end
end L2
namespace Att
open PySem PySem.W PySem.Calls PyProof.Rows
theorem jN:∀(ns:List Int)(vs:List Value),WellAll P h vs (ns.map WData.int)->IntsAre vs ns:=by
 intro ns;induction ns with
 |nil=>
  intro vs w;rw[List.map_nil]at w;cases w
  exact .nil
 |cons n ns ih=>
  intro vs w;rw[List.map_cons]at w;cases w with
  |cons a b=>
   cases a
   exact .cons _ _ (ih _ b)
theorem tw {l:OpenLaw}{n:Nat}(hn:l.most=some n){P:Params}{h:Heap}{args:List WData}{vals:List Value}
  (z7:l.row.toRowW.claim.pre args=true) (Hq:WellAll P h vals args):
  ∃a vs ns,vals=[Value.ref a]/\args=[WData.list (ns.map WData.int)]/\h.get? a=some { cls:=.type "list",data:=.seq vs.toArray }/\IntsAre vs ns/\ns.length<=n:=by
 have Hr:WShape.hasAll [] args [.list .int]=true:=(pre_splitW z7).1;have hc:l.pre.holds [] { args:=args }=true:=(pre_splitW z7).2;obtain⟨d,r,rfl,h1,h2⟩:=hasAllW_cons Hr;obtain rfl:=hasAllW_nil h2;obtain⟨xs,rfl,h3⟩:=hasW_list h1;obtain⟨ns,rfl⟩:=items_int h3;have bS:ns.length<=n:=by
  unfold OpenLaw.pre at hc;have h4:(WTm.not (.lt (.lit (.int (n:Int))) (.len (.arg 0)))).holds [] { args:=[.list (ns.map .int)] }=true:=by
   have h4:=(holds_andW hc).1;rw[hn]at h4;exact h4
  have h5:=condW_of h4 (w_not (w_lt w_lit (w_len_list (w_arg rfl))));rw[vH]at h5;refine Nat.le_of_not_lt λq=>?_;have q':(n:Int)<((ns.length:Nat):Int):=by omega
  first
   | (rw[decide_eq_true q']at h5;exact absurd h5 (by decide))
   | (simp at h5;omega)
 cases Hq with
 |cons w1 w2=>
  cases w2
  cases w1 with
  |list ho hall=>exact⟨_,_,ns,rfl,rfl,ho,jN ns _ hall,bS⟩
theorem tx (l:OpenLaw)(args:List WData):l.row.toRowW.claim.post args (.bool true) args=true :=
 postW_of (r:=l.row.toRowW) (X:=(true == true))
  (show WShape.has [] (.bool true) .bool=true by first|rfl|decide|simp[WShape.has,WShape.arms,WShape.armsAll])
  (show(WTm.eq .res (.lit (.bool true))).value [] { args:=args,res:=some (.bool true),after:=args }=some (.bool (true == true))from w_eq_bool (w_res rfl) w_lit) rfl
section
variable {prog:Program}{w:World}{A:Around}{E:Value->Shared->Prop}{s:Shared}{K:Frag}
theorem D5 
  (X:K.In s.heap) (hm:makesIn K C=true) (hi:findIn K (.ref C) "__init__" = some (some (.ref fI))) (hf:isFn K (.ref fI)=true)
  (h:codeAny (model prog w) (A.under (.builtin "type.__call__" ⟨.ref C::ay,kw⟩)) (.call (.ref fI) ⟨.ref (s.heap.objs.size+1)::ay,kw⟩) (InitBack (s.heap.objs.size+1) R)
   { s with heap:=(s.heap.push emptyDict).push (instObj C s.heap.objs.size) }):codeAny (model prog w) A (.call (.ref C) ⟨ay,kw⟩) R s:=by
 obtain⟨hh,g,d,t,os⟩:=s;exact make_core (makes_of X hm) (looks_findIn X hi) (λself=>bind_fn X self (beq_iff_eq.mp hf)) (.inl rfl) h
theorem Cy 
  (X:K.In s.heap) (I:PySem.W.InstAt s.heap x ox C (some (dictOf es n))) (hg:plainGet K C name=true) (hh:hasDictIn K C=true) (ha:findIn K (.ref C) name=some none)
  (hl:getL name es=some (some v)) (hv:handedIn v=true) (h:Q v { s with toks:=s.toks+1 }):wpAny (model prog w) A (getAttr (.ref x) name Ci) Q E s :=
 get_value X I (plainGet_of hg).1 (findObj_own hh ha rfl hl) hv h
def G9 (h:Heap)(L d:Addr):List (Addr×Obj):=(List.range h.objs.size).filterMap λa=>if a=L∨a=d then none else (h.get? a).map λo=>(a,o)
end
end Att
namespace L2
open PySem PySem.Spec PyProof.Rows
theorem mh:∀ {vs:List Value}{ns:List Int},IntsAre vs ns->aT (ns.map V.int) vs
 |_,_,.nil=>.nil
 |_,_,.cons n t h=>.cons ⟨t,rfl⟩ (mh h)
noncomputable def cz (s:Stmt):Arguments:=match s with
 |.FunctionDef _ a _ _ _ _ _ _ _ _=>a
 |_=>{ posonlyargs:=[],args:=[],vararg:=none,kwonlyargs:=[],kw_defaults:=[],kwarg:=none,defaults:=[] }
noncomputable def ba (s:Stmt):List Stmt:=match s with
 |.FunctionDef _ _ b _ _ _ _ _ _ _=>b
 |_=>[]
noncomputable def ar (s:Stmt):Scope:=match s with
 |.FunctionDef _ _ _ _ _ _ sc _ _ _=>sc
 |_=>{ kind:=.function,names:=[],isGenerator:=false,isCoroutine:=false }
abbrev ko:xH:=λ_ _ _ _ _ _=>False
abbrev E0:XK:=λ_ _ _=>False
theorem Ad:qw ko X E0:=λ_ _ _ _ _ _ _ h=>h.elim
structure xN (K:Frag)(x qual:Str)(st:Stmt)(f:Addr)(fd:FuncData):Prop where
 ex:∃(oc:Value)(od:Option Addr)(kV doc pm:Value)(an:Option Addr)(bL ct:Value)(jy:Array (Option Value)),
  fd=fnOf x qual (cz st) (ba st) (ar st) .none kV doc pm an bL ct/\K.lookup f=some ⟨oc,od,.func fd,jy⟩/\PySem.W.codeIn K bL qual=true
 kp:PySem.W.keepIn K (.ref f)=true
section
variable {P:Program}{w:World}{K:Frag}{mg:Str->Option Value}{base:Heap}
theorem xN.ok {x qual:Str}{st:Stmt}{f:Addr}{fd:FuncData}{N ps:List Str}{k:Nat}{sp:Sp}(F:xN K x qual st f fd)(S:FnScope N ps (ar st))(len:∀vs H Q E,sp vs H Q E->vs.length=ps.length)
  (xr:∀(bL:Value)(A:Around)(outer:List Env)(s:Shared)(H:Hp)(vs:List V)(Q:VK)(E:XK),cD k (A.deeper (envOfC qual (ar st) s.heap.objs.size f bL))->sp vs H Q E ->
   ∃t,kh (eB ko P w K mg base N qual (ar st) f bL A outer s H E).nox (ba st) t/\t { nx:=λ_ H'=>Q .non H',rt:=Q } (cY N vs) H):eZ P w K mg base ko (k+1) f fd ps sp:=by
 obtain⟨oc,od,kV,doc,pm,an,bL,ct,jy,rfl,lk,gq⟩:=F.ex;refine rE lk gq S len λA outer s H vs Q E hr A9=>?_;obtain⟨t,h,q⟩:=xr bL A outer s H vs Q E hr A9;exact⟨t,h.nox,q⟩
theorem xN.binds {x qual:Str}{st:Stmt}{f:Addr}{fd:FuncData}{ps:List Str}(F:xN K x qual st f fd)
  (h:∀(kV doc pm:Value)(an:Option Addr)(bL ct:Value)(us:List Value),us.length=ps.length->bindArgs (fnOf x qual (cz st) (ba st) (ar st) .none kV doc pm an bL ct) ⟨us,[]⟩=pure (ps.zip us)):eA K fd ps []:=by
 obtain⟨oc,od,kV,doc,pm,an,bL,ct,jy,rfl,lk,gq⟩:=F.ex;exact .all (h kV doc pm an bL ct)
theorem uU {x qual:Str}{st:Stmt}{f:Addr}{oc:Value}{od an:Option Addr}{jy:Array (Option Value)}{kV doc pm bL ct:Value}(l:K.lookup f=some ⟨oc,od,.func (fnOf x qual (cz st) (ba st) (ar st) .none kV doc pm an bL ct),jy⟩)
  (c:PySem.W.codeIn K bL qual=true) (k:PySem.W.keepIn K (.ref f)=true):xN K x qual st f (fnOf x qual (cz st) (ba st) (ar st) .none kV doc pm an bL ct):=⟨⟨oc,od,kV,doc,pm,an,bL,ct,jy,rfl,l,c⟩,k⟩
end
def aO (H H':Hp):Prop:=∀b o,H b=some o->H' b=some o
theorem aO.refl (H:Hp):aO H H:=λ_ _ h=>h
theorem aO.trans (a:aO H H1)(b:aO H1 H2):aO H H2:=λc o h=>b c o (a c o h)
theorem aO.free (e:aO H H')(h:H' l=Option.none):H l=Option.none:=by
 cases q:H l with
 |none=>rfl
 |some o=>
  rw[e l o q]at h;cases h
theorem aO.seq {K:Frag}{H H':Hp}{a:Addr}{xs:List V}(e:aO H H')(h:fZ K H a xs):fZ K H' a xs:=by
 rcases h with (h|⟨o,h⟩)|h
 ·exact .inl (.inl (e _ _ h))
 ·exact .inl (.inr ⟨o,e _ _ h⟩)
 ·exact .inr h
section
variable {κ:Type}[DecidableEq κ]
noncomputable def Bl (b8:List (κ×V))(k:κ):Option V:=(b8.find? λkv=>decide (kv.1=k)).map (·.2)
theorem lF.getD (r:lF o u)(rd:aI d d'):aI (o.getD d) (u.getD d'):=by
 cases o with
 |none=>cases u with
  |none=>exact rd
  |some _=>exact(show False from r).elim
 |some _=>cases u with
  |none=>exact(show False from r).elim
  |some _=>exact r
theorem KV.length (r:KV b8 vs):b8.length=vs.length:=Paired.length r
end
def D6 (H:Hp)(a:Addr)(y:V)(r:Option V):Prop :=
 (∃b8 k ob,Rd H a (.dK b8 ob)/\y=kV k/\r=Bl b8 k)∨∃b8 k b,Rd H a (.dT b8)/\y=.ref b/\H b=some (.tup (k.map kV))/\r=Bl b8 k
theorem D6.t (e:H a=some (.dT b8))(eb:H b=some (.tup (k.map kV))):D6 H a (.ref b) (Bl b8 k):=.inr ⟨b8,k,b,.inl e,rfl,eb,rfl⟩
section
variable {X:Cx}{ac:List (Addr×Obj)}{σ:St}{H:Hp}{s:Shared}{a:Addr}{y v:V}{u r:Value}{o:Option V}{A:Around}{E:Value->Shared->Prop}
theorem Inv.big (I:Inv X ac σ H s):sysModules<s.heap.objs.size:=by
 have h:mainGlobals<s.heap.objs.size:=(I.mod.glob.keeps I.bk).lt;exact Nat.lt_trans (by decide) h
end
theorem uW (h:Heap)(hb:sysModules<h.objs.size):bC P w H (h.push { cls:=.type "dict",data:=.dict #[] }) h.objs.size (.dK [] { cls:=.type "dict",data:=.dict #[] }) :=
 ⟨vY _ rfl,uN _,beq_eq_false_iff_ne.mpr (Ne.symm (vS hb)),[],.nil,Heap.DictOf.new h⟩
def Bm:TE:=λ_ H Q=>∀p ob,H p=none->Q (.ref p) (upd H p (.dK [] ob))
section
variable {X:Cx}{pos:Pos}
theorem uY:PE X (.Dict [] [] pos) Bm:=λac s σ H Q I h=>
 wpAny_Dict_empty ⟨.ref s.heap.objs.size,_,I.laid (a:=s.heap.objs.size) (o:=.dK [] { cls:=.type "dict",data:=.dict #[] }) (t':=s.toks) (λ_ _ q=>vZ _ q) (vT _) (uW s.heap I.big),rfl,h _ _ (I.hok.fresh (vT _))⟩
end
end L2
namespace DL
open PySem L2
set_option linter.all false
abbrev St:=L2.St
inductive D where
 |non|bl (b:Bool)|int (i:Int)|str (x:Str)|ty (n:String)|tup (ds:List D)|lst (ds:List D)
  |dk (ks:List iA) (vs:List D)|dt (ks:List (List iA)) (vs:List D)
abbrev OB:=Option (D×Bool)
mutual
inductive Is (K:Frag)(H:Hp):V->D->Prop where
 |non:Is K H .non .non
 |bl (b:Bool):Is K H (.bl b) (.bl b)
 |int (i:Int):Is K H (.int i) (.int i)
 |str (x:Str):Is K H (.str x) (.str x)
 |ty (n:String):Is K H (.ty n) (.ty n)
 |tup {a:Addr}{vs:List V}{ds:List D}(h:gb K H a vs) (hs:IsL K H vs ds):Is K H (.ref a) (.tup ds)
 |lst {a:Addr}{vs:List V}{ds:List D}(h:fZ K H a vs) (hs:IsL K H vs ds):Is K H (.ref a) (.lst ds)
 |dk {a:Addr}{ks:List iA}{vs:List V}{ds:List D}{ob:Obj}(h:H a=some (.dK (ks.zip vs) ob)) (hl:ks.length=vs.length) (hs:IsL K H vs ds):Is K H (.ref a) (.dk ks ds)
 |dt {a:Addr}{ks:List (List iA)}{vs:List V}{ds:List D}(h:H a=some (.dT (ks.zip vs))) (hl:ks.length=vs.length) (hs:IsL K H vs ds):Is K H (.ref a) (.dt ks ds)
inductive IsL (K:Frag)(H:Hp):List V->List D->Prop where
 |nil:IsL K H [] []
 |cons {v:V}{d:D}{vs:List V}{ds:List D}(h:Is K H v d) (hs:IsL K H vs ds):IsL K H (v::vs) (d::ds)
end
mutual
def bw:D->Bool
 |.lst _=>false
 |.dk _ _=>false
 |.dt _ _=>false
 |.tup ds=>bi ds
 |_=>true
def bi:List D->Bool
 |[]=>true
 |d::ds=>bw d && bi ds
end
@[simp] theorem Cz:bw .non=true:=by simp only[bw]
@[simp] theorem D7 (b:Bool):bw (.bl b)=true:=by simp only[bw]
@[simp] theorem C0 (i:Int):bw (.int i)=true:=by simp only[bw]
@[simp] theorem C1 (x:Str):bw (.str x)=true:=by simp only[bw]
@[simp] theorem D8 (x:String):bw (.ty x)=true:=by simp only[bw]
@[simp] theorem C2 (ds:List D):bw (.tup ds)=bi ds:=by rw[bw]
@[simp] theorem C3 (ds:List D):bw (.lst ds)=false:=by rw[bw]
@[simp] theorem D9 (ks:List iA)(ds:List D):bw (.dk ks ds)=false:=by rw[bw]
@[simp] theorem DA (ks:List (List iA))(ds:List D):bw (.dt ks ds)=false:=by rw[bw]
@[simp] theorem Bn:bi []=true:=by rw[bi]
@[simp] theorem Ae (d:D)(ds:List D):bi (d::ds)=(bw d && bi ds):=by rw[bi]
section
variable {K:Frag}{H H':Hp}
mutual
theorem Is.keep (hT:∀a vs,gb K H a vs->gb K H' a vs)(hL:∀a vs,fZ K H a vs->fZ K H' a vs)(hK:∀a b8 ob,H a=some (.dK b8 ob)->H' a=some (.dK b8 ob))(hM:∀a b8,H a=some (.dT b8)->H' a=some (.dT b8)):∀ {v:V}{d:D},Is K H v d->Is K H' v d
 |_,_,.non=>.non
 |_,_,.bl b=>.bl b
 |_,_,.int i=>.int i
 |_,_,.str x=>.str x
 |_,_,.ty x=>.ty x
 |_,_,.tup h hs=>.tup (hT _ _ h) (IsL.keep hT hL hK hM hs)
 |_,_,.lst h hs=>.lst (hL _ _ h) (IsL.keep hT hL hK hM hs)
 |_,_,.dk h hl hs=>.dk (hK _ _ _ h) hl (IsL.keep hT hL hK hM hs)
 |_,_,.dt h hl hs=>.dt (hM _ _ h) hl (IsL.keep hT hL hK hM hs)
theorem IsL.keep (hT:∀a vs,gb K H a vs->gb K H' a vs)(hL:∀a vs,fZ K H a vs->fZ K H' a vs)(hK:∀a b8 ob,H a=some (.dK b8 ob)->H' a=some (.dK b8 ob))(hM:∀a b8,H a=some (.dT b8)->H' a=some (.dT b8)):∀ {vs:List V}{ds:List D},IsL K H vs ds->IsL K H' vs ds
 |_,_,.nil=>.nil
 |_,_,.cons h hs=>.cons (Is.keep hT hL hK hM h) (IsL.keep hT hL hK hM hs)
end
mutual
theorem Is.keepT (hT:∀a vs,gb K H a vs->gb K H' a vs):∀ {v:V}{d:D},Is K H v d->bw d=true->Is K H' v d
 |_,_,.non,_=>.non
 |_,_,.bl b,_=>.bl b
 |_,_,.int i,_=>.int i
 |_,_,.str x,_=>.str x
 |_,_,.ty x,_=>.ty x
 |_,_,.tup h hs,n=>.tup (hT _ _ h) (IsL.keepT hT hs (by simpa using n))
 |_,_,.lst h hs,n=>by simp at n
 |_,_,.dk h hl hs,n=>by simp at n
 |_,_,.dt h hl hs,n=>by simp at n
theorem IsL.keepT (hT:∀a vs,gb K H a vs->gb K H' a vs):∀ {vs:List V}{ds:List D},IsL K H vs ds->bi ds=true->IsL K H' vs ds
 |_,_,.nil,_=>.nil
 |_,_,.cons h hs,n=>by
  simp at n;exact .cons (Is.keepT hT h n.1) (IsL.keepT hT hs n.2)
end
theorem bg (e:aO H H')(h:gb K H a xs):gb K H' a xs:=by
 rcases h with (h|⟨o,h⟩)|h
 ·exact .inl (.inl (e _ _ h))
 ·exact .inl (.inr ⟨o,e _ _ h⟩)
 ·exact .inr h
theorem Is.mono (h:Is K H v d)(e:aO H H'):Is K H' v d:=h.keep (λ_ _=>bg e) (λ_ _=>e.seq) (λ_ _ _ q=>e _ _ q) λ_ _ q=>e _ _ q
theorem IsL.mono (h:IsL K H v d)(e:aO H H'):IsL K H' v d:=h.keep (λ_ _=>bg e) (λ_ _=>e.seq) (λ_ _ _ q=>e _ _ q) λ_ _ q=>e _ _ q
theorem IsL.length:∀ {vs:List V}{ds:List D},IsL K H vs ds->vs.length=ds.length
 |_,_,.nil=>rfl
 |_,_,.cons _ t=>congrArg (· + 1) t.length
theorem IsL.get:∀ {vs:List V}{ds:List D}{i:Nat}{d:D},IsL K H vs ds->ds[i]? = some d->∃v,vs[i]? = some v/\Is K H v d
 |_,_,_,_,.nil,e=>by simp at e
 |_,_,0,_,.cons h _,e=>by simp at e;subst e;exact⟨_,rfl,h⟩
 |_,_,i+1,d,.cons _ t,e=>by
  obtain⟨u,h1,h2⟩:=t.get (i:=i) (d:=d) (by simpa using e);exact⟨u,by simpa using h1,h2⟩
theorem IsL.append:∀ {vs ws:List V}{ds es:List D},IsL K H vs ds->IsL K H ws es->IsL K H (vs++ws) (ds++es)
 |_,_,_,_,.nil,s=>s
 |_,_,_,_,.cons r t,s=>.cons r (t.append s)
theorem IsL.take:∀ {vs:List V}{ds:List D}(n:Nat),IsL K H vs ds->IsL K H (vs.take n) (ds.take n)
 |_,_,0,_=>by simpa using IsL.nil
 |_,_,_+1,.nil=>.nil
 |_,_,n+1,.cons r t=>.cons r (t.take n)
theorem IsL.drop:∀ {vs:List V}{ds:List D}(n:Nat),IsL K H vs ds->IsL K H (vs.drop n) (ds.drop n)
 |_,_,0,r=>r
 |_,_,_+1,.nil=>.nil
 |_,_,n+1,.cons _ t=>t.drop n
theorem IsL.set (h:Is K H v d):∀ {vs:List V}{ds:List D}(i:Nat),IsL K H vs ds->IsL K H (vs.set i v) (ds.set i d)
 |_,_,_,.nil=>.nil
 |_,_,0,.cons _ t=>.cons h t
 |_,_,i+1,.cons r t=>.cons r (IsL.set h i t)
theorem IsL.flat {vs:List V}{ns:List Int}(h:vs=ns.map V.int):IsL K H vs (ns.map D.int):=by
 subst h;induction ns with
 |nil=>exact .nil
 |cons n ns ih=>exact .cons (.int n) ih
end
structure Ext (B N H H':Hp):Prop where
 hh:aO H H'
 bn:aO B N
 nh:aO N H'
 new:∀a o,N a=some o->B a=some o∨H a=none
theorem Ext.refl (h:aO B H):Ext B B H H:=⟨.refl _,.refl _,h,λ_ _ e=>.inl e⟩
theorem Ext.trans (x:Ext B N H H1)(y:Ext N N2 H1 H2):Ext B N2 H H2 :=
 ⟨x.hh.trans y.hh,x.bn.trans y.bn,y.nh,λa o e=>(y.new a o e).elim (λq=>x.new a o q) λq=>.inr (x.hh.free q)⟩
theorem Ext.laid (h:aO B H)(hp:H p=none):Ext B (upd B p o) H (upd H p o):=by
 have hB:B p=none:=h.free hp;refine⟨λa u e=>?_,λa u e=>?_,λa u e=>?_,λa u e=>?_⟩
 ·rw[au (λq=>by subst q;rw[hp]at e;cases e)];exact e
 ·rw[au (λq=>by subst q;rw[hB]at e;cases e)];exact e
 ·by_cases q:a=p
  ·subst q;rw[aw]at e ⊢;exact e
  ·rw[au q]at e ⊢;exact h _ _ e
 ·by_cases q:a=p
  ·subst q;exact .inr hp
  ·rw[au q]at e;exact .inl e
theorem Ext.grow (h:aO B H)(hh:aO H H'):Ext B B H H':=⟨hh,.refl _,h.trans hh,λ_ _ e=>.inl e⟩
abbrev Env:=List OB
abbrev FE:=Env->OB
abbrev FA:=Env->Option (List D)
abbrev FT:=Env->Option Bool
def C4 (K:Frag)(H N:Hp)(v:V)(d:D):Prop:=∃(a:Addr)(vs:List V)(ds:List D),v=.ref a/\d=.lst ds/\H a=none/\N a=some (.lst vs)/\IsL K N vs ds
theorem C4.back (h:C4 K H' N v d)(e:aO H H'):C4 K H N v d:=let ⟨a,vs,ds,q,y,z,r⟩:=h;⟨a,vs,ds,q,y,e.free z,r⟩
noncomputable def o5:List Str:=["in_order","has_seal","is_first_death","bases_by","as_heard"]
noncomputable def Bo (x:Str):Str:=x ++ ".<locals>." ++ "<lambda>"
def Tb (K:Frag)(B:Hp):Prop:=∀x∈o5,∀c P,PySem.W.tabIn K x=some (c,P)->B P=some (.tbl (Bo x))
theorem Tb.mono (h:Tb K B)(e:aO B B'):Tb K B':=λx hx c P q=>e _ _ (h x hx c P q)
structure dD (K:Frag)(B:Hp)(σ:St)(ρ:Env):Prop where
 tb:Tb K B
 at':∀(i:Nat)(d:D)(b:Bool),ρ[i]? = some (some (d,b))->∃v,σ[i]? = some (some v)/\Is K B v d
theorem dD.mono (h:dD K B σ ρ)(e:aO B B'):dD K B' σ ρ:=⟨h.tb.mono e,λi d b q=>let ⟨v,h1,h2⟩:=h.at' i d b q;⟨v,h1,h2.mono e⟩⟩
def Fin (K:Frag)(B H:Hp)(d:D)(b:Bool)(Q:VK):Prop:=∀(v:V)(H' N:Hp),Ext B N H H'->Is K N v d->(b=true->C4 K H N v d)->Q v H'
def tD (K:Frag)(f:FE):TE:=λσ H Q=>∃(B:Hp)(ρ:Env)(d:D)(b:Bool),aO B H/\dD K B σ ρ/\f ρ=some (d,b)/\Fin K B H d b Q
def t6 (K:Frag)(f:FT):TT:=λσ H Q=>∃(B:Hp)(ρ:Env)(c:Bool),aO B H/\dD K B σ ρ/\f ρ=some c/\∀H',aO H H'->Q c H'
def DB (K:Frag)(f:FA):TA:=λσ H Q=>∃(B:Hp)(ρ:Env)(ds:List D),aO B H/\dD K B σ ρ/\f ρ=some ds/\∀(vs:List V)(H' N:Hp),Ext B N H H'->IsL K N vs ds->Q vs H'
def rD (K:Frag)(op:D->D->OB):R2:=λx y H Q=>∃(B:Hp)(dx dy d:D)(b:Bool),aO B H/\Is K B x dx/\Is K B y dy/\op dx dy=some (d,b)/\Fin K B H d b Q
def yt (K:Frag)(op:List D->OB):List V->Hp->VK->Prop:=λxs H Q=>∃(B:Hp)(ds:List D)(d:D)(b:Bool),aO B H/\IsL K B xs ds/\op ds=some (d,b)/\Fin K B H d b Q
theorem Fin.one (h:Fin K B H d false Q)(s:aO B H)(i:Is K B v d):Q v H:=h v H B (.refl s) i (by simp)
theorem Fin.into (h:Fin K B H d b Q)(x:Ext B N H H1):Fin K N H1 d b Q:=λv H' N' y i fr=>h v H' N' (x.trans y) i λe=>(fr e).back x.hh
@[simp] noncomputable def fC (d:D):FE:=λ_=>some (d,false)
@[simp] noncomputable def aj (i:Nat):FE:=λρ=>match ρ[i]? with|some (some (d,_))=>some (d,false)|_=>none
@[simp] noncomputable def f2 (op:D->D->OB)(fa fb:FE):FE:=λρ=>(fa ρ).bind λx=>(fb ρ).bind λy=>op x.1 y.1
@[simp] noncomputable def f1 (op:D->OB)(fa:FE):FE:=λρ=>(fa ρ).bind λx=>op x.1
@[simp] noncomputable def af:FA:=λ_=>some []
@[simp] noncomputable def aa (fa:FE)(fr:FA):FA:=λρ=>(fa ρ).bind λx=>(fr ρ).bind λxs=>some (x.1::xs)
@[simp] noncomputable def fA (op:List D->OB)(fa:FA):FE:=λρ=>(fa ρ).bind op
theorem Bp (h:tD K (aj i) σ H Q):∃v,σ[i]? = some (some v)/\Q v H:=by
 obtain⟨B,ρ,d,b,s,r,e,q⟩:=h;unfold aj at e;split at e
 ·rename_i d' b' e';cases e
  obtain⟨v,h1,h2⟩:=r.at' i _ _ e';exact⟨v,h1,q.one s h2⟩
 ·cases e
theorem yu (h:tD K (f2 op fa fb) σ H Q):tD K fa σ H λx H1=>tD K fb σ H1 λy H2=>rD K op x y H2 Q:=by
 obtain⟨B,ρ,d,b,s,r,e,q⟩:=h;obtain⟨x,ex,e⟩:=oX e;obtain⟨y,ey,e⟩:=oX e;refine⟨B,ρ,x.1,x.2,s,r,ex,λv H1 N x1 i1 _=>⟨N,ρ,y.1,y.2,x1.nh,r.mono x1.bn,ey,λv2 H2 N2 x2 i2 _=>⟨N2,x.1,y.1,d,b,x2.nh,i1.mono x2.bn,i2,e,?_⟩⟩⟩;exact q.into (x1.trans x2)
theorem yv (h:tD K (fA op fa) σ H Q):DB K fa σ H λxs H1=>yt K op xs H1 Q:=by
 obtain⟨B,ρ,d,b,s,r,e,q⟩:=h;obtain⟨x,ex,e⟩:=oX e;exact⟨B,ρ,x,s,r,ex,λv H1 N x1 i1=>⟨N,x,d,b,x1.nh,i1,e,q.into x1⟩⟩
theorem yw (h:DB K af σ H Q):Q [] H:=by
 obtain⟨B,ρ,ds,s,r,e,q⟩:=h;cases e
 exact q [] H B (.refl s) .nil
theorem va (h:DB K (aa fa fr) σ H Q):tD K fa σ H λx H1=>DB K fr σ H1 λxs H2=>Q (x::xs) H2:=by
 obtain⟨B,ρ,ds,s,r,e,q⟩:=h;obtain⟨x,ex,e⟩:=oX e;obtain⟨y,ey,e⟩:=oX e;cases e
 exact⟨B,ρ,x.1,x.2,s,r,ex,λv H1 N x1 i1 _=>⟨N,ρ,y,x1.nh,r.mono x1.bn,ey,λvs H2 N2 x2 i2=>q _ H2 N2 (x1.trans x2) (.cons (i1.mono x2.bn) i2)⟩⟩
@[simp] noncomputable def bD (f:FE):FT:=λρ=>match f ρ with|some (.bl c,_)=>some c|_=>none
@[simp] noncomputable def dQ (f g:FT):FT:=λρ=>match f ρ with|some true=>g ρ|some false=>some false|none=>none
@[simp] noncomputable def dO (f g:FT):FT:=λρ=>match f ρ with|some true=>some true|some false=>g ρ|none=>none
@[simp] noncomputable def cZ (f:FT):FT:=λρ=>(f ρ).map (!·)
open Classical in
noncomputable def cN (H:Hp)(P:Addr->Prop):Hp:=λa=>if P a then none else H a
theorem ci (h:¬P a):cN H P a=H a:=by unfold cN;rw[if_neg h]
theorem qz (h:P a):cN H P a=none:=by unfold cN;rw[if_pos h]
theorem kq (h:cN H P a=some o):¬P a/\H a=some o:=by
 by_cases q:P a
 ·rw[qz q]at h;cases h
 ·rw[ci q]at h;exact⟨q,h⟩
theorem bG:aO (cN H P) H:=λ_ _ e=>(kq e).2
theorem eC (e:∀a o,H a=some o->¬P a->H' a=some o/\¬P' a):aO (cN H P) (cN H' P'):=λa o q=>by
 obtain⟨h1,h2⟩:=kq q;obtain⟨h3,h4⟩:=e a o h2 h1;rw[ci h4];exact h3
noncomputable def join (N N':Hp):Hp:=λa=>match N a with|some o=>some o|none=>N' a
theorem cT:aO N (join N N'):=λa o e=>by unfold join;rw[e]
theorem cG (e:N a=none):join N N' a=N' a:=by unfold join;rw[e]
def own (σ:St)(ρ:Env)(a:Addr):Prop:=∃(i:Nat)(d:D),ρ[i]? = some (some (d,true))/\σ[i]? = some (some (V.ref a))
inductive Bx (K:Frag)(C:Hp):HO->D->Prop where
 |lst {vs:List V}{ds:List D}(h:IsL K C vs ds):Bx K C (.lst vs) (.lst ds)
 |dk {ks:List iA}{vs:List V}{ds:List D}(hl:ks.length=vs.length) (h:IsL K C vs ds) {ob:Obj}:Bx K C (.dK (ks.zip vs) ob) (.dk ks ds)
 |dt {ks:List (List iA)}{vs:List V}{ds:List D}(hl:ks.length=vs.length) (h:IsL K C vs ds):Bx K C (.dT (ks.zip vs)) (.dt ks ds)
theorem Bx.mono (h:Bx K C o d)(e:aO C C'):Bx K C' o d:=by
 cases h with
 |lst h=>exact .lst (h.mono e)
 |dk hl h=>exact .dk hl (h.mono e)
 |dt hl h=>exact .dt hl (h.mono e)
theorem Bx.is (h:Bx K C o d)(e:C a=some o):Is K C (.ref a) d:=by
 cases h with
 |lst h=>exact .lst (fZ.of e) h
 |dk hl h=>exact .dk e hl h
 |dt hl h=>exact .dt e hl h
structure dg (K:Frag)(B0 H0 N H:Hp)(σ:St)(ρ:Env):Prop where
 bh:aO B0 H0
 tb:Tb K B0
 ext:Ext B0 N H0 H
 len:ρ.length=σ.length
 sh:∀(i:Nat)(d:D),ρ[i]? = some (some (d,false))->∃v,σ[i]? = some (some v)/\Is K (cN N (own σ ρ)) v d
 ow:∀(i:Nat)(d:D),ρ[i]? = some (some (d,true))->∃(a:Addr)(o:HO),σ[i]? = some (some (V.ref a))/\N a=some o/\H0 a=none/\Bx K (cN N (own σ ρ)) o d
 inj:∀(i j:Nat)(a:Addr)(d e:D),ρ[i]? = some (some (d,true))->ρ[j]? = some (some (e,true))->σ[i]? = some (some (V.ref a))->σ[j]? = some (some (V.ref a))->i=j
def q0 (K:Frag)(B0 H0 H:Hp)(σ:St)(ρ:Env):Prop:=∃N,dg K B0 H0 N H σ ρ
section
variable {K:Frag}{B0 H0 N H H':Hp}{σ:St}{ρ:Env}
theorem dg.owL (s:dg K B0 H0 N H σ ρ)(i:Nat)(d:D)(q:ρ[i]? = some (some (.lst es,true)))(hd:d=.lst es:=by rfl):∃(a:Addr)(vs:List V)(ds:List D),d=.lst ds/\σ[i]? = some (some (V.ref a))/\N a=some (.lst vs)/\H0 a=none/\IsL K (cN N (own σ ρ)) vs ds:=by
 obtain⟨a,o,h1,h2,h3,h4⟩:=s.ow i _ q;cases h4 with
 |lst h4=>exact⟨a,_,es,hd,h1,h2,h3,h4⟩
def boxed:HO->Prop
 |.lst _|.dK _ _|.dT _=>True
 |_=>False
theorem Bx.boxed (h:Bx K C o d):boxed o:=by cases h<;>exact trivial
theorem dg.owned (s:dg K B0 H0 N H σ ρ)(h:own σ ρ a):∃o,(N a=some o/\boxed o)/\H0 a=none:=by
 obtain⟨i,d,h1,h2⟩:=h;obtain⟨a',o,h3,h4,h5,h6⟩:=s.ow i d h1;rw[h2]at h3;cases h3;exact⟨o,⟨h4,h6.boxed⟩,h5⟩
theorem dg.rep (s:dg K B0 H0 N H σ ρ):dD K N σ ρ:=⟨s.tb.mono s.ext.bn,λi d b q=>by
 cases b with
 |false=>obtain⟨v,h1,h2⟩:=s.sh i d q;exact⟨v,h1,h2.mono bG⟩
 |true=>
  obtain⟨a,o,h2,h3,_,h4⟩:=s.ow i d q;exact⟨_,h2,(h4.mono bG).is h3⟩⟩
noncomputable def mW (ρ:Env):Env:=ρ.map λx=>match x with|some (d,false)=>some (d,false)|_=>none
theorem vc {i:Nat}{d:D}{b:Bool}(h:(mW ρ)[i]? = some (some (d,b))):b=false/\ρ[i]? = some (some (d,false)):=by
 unfold mW at h;rw[vA]at h;cases e:ρ[i]? with
 |none=>rw[e]at h;cases h
 |some x=>
  rw[e]at h;match x,h with
  |some (d',false),h=>cases h;exact⟨rfl,rfl⟩
  |some (d',true),h=>cases h
  |none,h=>cases h
theorem dg.tbC (s:dg K B0 H0 N H σ ρ):Tb K (cN N (own σ ρ)):=λx hx c P q=>by
 have z:=s.tb.mono s.ext.bn x hx c P q;rw[ci]
 ·exact z
 ·intro y;obtain⟨o,⟨y,yb⟩,_⟩:=s.owned y;rw[z]at y;cases y;exact yb
theorem dg.repH (s:dg K B0 H0 N H σ ρ):dD K (cN N (own σ ρ)) σ (mW ρ):=⟨s.tbC,λi d b q=>by
 obtain⟨rfl,q2⟩:=vc q;exact s.sh i d q2⟩
theorem dg.grow (s:dg K B0 H0 N H σ ρ)(x:Ext N N' H H'):dg K B0 H0 N' H' σ ρ:=by
 have c:aO (cN N (own σ ρ)) (cN N' (own σ ρ)):=eC λa o e q=>⟨x.bn a o e,q⟩;refine⟨s.bh,s.tb,s.ext.trans x,s.len,λi d q=>?_,λi d q=>?_,s.inj⟩
 ·obtain⟨v,h1,h2⟩:=s.sh i d q;exact⟨v,h1,h2.mono c⟩
 ·obtain⟨a,o,h2,h3,h4,h5⟩:=s.ow i d q;exact⟨a,o,h2,x.bn _ _ h3,h4,h5.mono c⟩
theorem dg.growH (s:dg K B0 H0 N H σ ρ)(x:Ext (cN N (own σ ρ)) N' H H'):dg K B0 H0 (join N N') H' σ ρ/\aO N' (cN (join N N') (own σ ρ)):=by
 have x':Ext N (join N N') H H':=by
  refine⟨x.hh,cT,λa o e=>?_,λa o e=>?_⟩
  ·cases q:N a with
   |some u=>
    have:join N N' a=some u:=cT _ _ q;rw[this]at e;cases e;exact x.hh _ _ (s.ext.nh _ _ q)
   |none=>rw[cG q]at e;exact x.nh _ _ e
  ·cases q:N a with
   |some u=>
    have:join N N' a=some u:=cT _ _ q;rw[this]at e;cases e;exact .inl rfl
   |none=>
    rw[cG q]at e;rcases x.new a o e with z|z
    ·have:=bG _ _ z;rw[q]at this;cases this
    ·exact .inr z
 refine⟨s.grow x',λa o e=>?_⟩;rcases x.new a o e with z|z
 ·obtain⟨z1,z2⟩:=kq z;rw[ci z1];exact cT _ _ z2
 ·have hN:N a=none:=s.ext.nh.free z;have:¬own σ ρ a:=λq=>by obtain⟨vs,⟨q,_⟩,_⟩:=s.owned q;rw[hN]at q;cases q
  rw[ci this,cG hN];exact e
noncomputable def unown (ρ:Env):Env:=ρ.map λx=>x.map λy=>(y.1,false)
theorem gS {i:Nat}{d:D}{b:Bool}(h:(unown ρ)[i]? = some (some (d,b))):b=false/\∃c,ρ[i]? = some (some (d,c)):=by
 unfold unown at h;rw[vA]at h;cases e:ρ[i]? with
 |none=>rw[e]at h;cases h
 |some x=>
  rw[e]at h;match x,h with
  |some (d',c),h=>cases h;exact⟨rfl,c,rfl⟩
  |none,h=>cases h
theorem jk {a:Addr}:¬own σ (unown ρ) a:=λ⟨i,d,h,_⟩=>by
 obtain⟨z,_⟩:=gS h;cases z
theorem dg.unown (s:dg K B0 H0 N H σ ρ):dg K B0 H0 N H σ (unown ρ):=by
 refine⟨s.bh,s.tb,s.ext,by unfold DL.unown;rw[vH];exact s.len,λi d q=>?_,λi d q=>?_,λi j a d e q=>?_⟩
 ·obtain⟨_,c,q⟩:=gS q;obtain⟨v,h1,h2⟩:=s.rep.at' i d c q;exact⟨v,h1,h2.mono λa o e=>by rw[ci jk];exact e⟩
 ·obtain⟨z,_⟩:=gS q;cases z
 ·obtain⟨z,_⟩:=gS q;cases z
theorem bE {α:Type}{l:List α}{i j:Nat}{x y:α}(h:(l.set i x)[j]? = some y):(i=j/\x=y)∨(i≠j/\l[j]? = some y):=by
 by_cases e:i=j
 ·subst e;rw[List.getElem?_set]at h;split at h
  ·split at h
   ·exact .inl ⟨rfl,vJ h⟩
   ·cases h
  ·contradiction
 ·rw[vB e]at h;exact .inr ⟨e,h⟩
theorem mi {α β:Type}{l:List α}{m:List β}{i:Nat}{x y:α}(h:(l.set i x)[i]? = some y)(e:l.length=m.length):i<m.length:=by
 obtain⟨h,_⟩:=vV h;rw[List.length_set]at h;omega
theorem ng {i:Nat}{v:V}{x:OB}{a:Addr}(h:own (σ.set i (some v)) (ρ.set i x) a):(v=.ref a/\∃d,x=some (d,true))∨∃j,j≠i/\∃d,ρ[j]? = some (some (d,true))/\σ[j]? = some (some (V.ref a)):=by
 obtain⟨j,d,h1,h2⟩:=h;rcases bE h1 with⟨e,q⟩|⟨e,q⟩
 ·rcases bE h2 with⟨e2,q2⟩|⟨e2,q2⟩
  ·cases q2;exact .inl ⟨rfl,d,q⟩
  ·exact absurd e e2
 ·rcases bE h2 with⟨e2,q2⟩|⟨e2,q2⟩
  ·exact absurd e2 e
  ·exact .inr ⟨j,λz=>e z.symm,d,q,q2⟩
theorem dg.bind (s:dg K B0 H0 N H σ ρ){i:Nat}{v:V}{d:D}(h:Is K (cN N (own σ ρ)) v d):dg K B0 H0 N H (σ.set i (some v)) (ρ.set i (some (d,false))):=by
 have o:∀a,own (σ.set i (some v)) (ρ.set i (some (d,false))) a->own σ ρ a:=λa q=>by
  rcases ng q with⟨_,d',p⟩|⟨j,_,d',q1,q2⟩
  ·cases p
  ·exact⟨j,d',q1,q2⟩
 have c:aO (cN N (own σ ρ)) (cN N (own (σ.set i (some v)) (ρ.set i (some (d,false))))):=eC λa u e q=>⟨e,λz=>q (o a z)⟩;refine⟨s.bh,s.tb,s.ext,by simp[s.len],λj e q=>?_,λj e q=>?_,λj k a e f q q' h1 h2=>?_⟩
 ·rcases bE q with⟨rfl,p⟩|⟨ne,p⟩
  ·cases p
   have hi:=mi q s.len;exact⟨v,by simp[hi],h.mono c⟩
  ·obtain⟨w,h1,h2⟩:=s.sh j e p;exact⟨w,by rw[vB ne];exact h1,h2.mono c⟩
 ·rcases bE q with⟨rfl,p⟩|⟨ne,p⟩
  ·cases p
  ·obtain⟨a,o,h1,h2,h3,h4⟩:=s.ow j e p;exact⟨a,o,by rw[vB ne];exact h1,h2,h3,h4.mono c⟩
 ·rcases bE q with⟨rfl,p⟩|⟨ne,p⟩
  ·cases p
  ·rcases bE q' with⟨rfl,p'⟩|⟨EB,p'⟩
   ·cases p'
   ·rw[vB ne]at h1;rw[vB EB]at h2;exact s.inj j k a e f p p' h1 h2
theorem dg.bindOwn (s:dg K B0 H0 N H σ ρ){i:Nat}{a:Addr}{ob:HO}{dd:D}(hN:N a=some ob)(h0:H0 a=none)(CM:∀(j:Nat)(d:D),ρ[j]? = some (some (d,true))->σ[j]? ≠ some (some (V.ref a)))
  (Hr:∀(j:Nat)(d:D),j≠i->ρ[j]? = some (some (d,false))->∃v,σ[j]? = some (some v)/\Is K (cN N (λb=>own σ ρ b∨b=a)) v d) (KW:∀(j:Nat)(d:D),j≠i->ρ[j]? = some (some (d,true))->∃(a':Addr)(o:HO),σ[j]? = some (some (V.ref a'))/\N a'=some o/\Bx K (cN N (λb=>own σ ρ b∨b=a)) o d)
  (Cg:Bx K (cN N (λb=>own σ ρ b∨b=a)) ob dd):dg K B0 H0 N H (σ.set i (some (.ref a))) (ρ.set i (some (dd,true))):=by
 have o:∀b,own (σ.set i (some (V.ref a))) (ρ.set i (some (dd,true))) b->own σ ρ b∨b=a:=λb q=>by
  rcases ng q with⟨p,_⟩|⟨j,_,d',q1,q2⟩
  ·cases p;exact .inr rfl
  ·exact .inl ⟨j,d',q1,q2⟩
 have c:aO (cN N (λb=>own σ ρ b∨b=a)) (cN N (own (σ.set i (some (V.ref a))) (ρ.set i (some (dd,true))))):=eC λb u e q=>⟨e,λz=>q (o b z)⟩;refine⟨s.bh,s.tb,s.ext,by simp[s.len],λj e q=>?_,λj e q=>?_,λj k b e f q q' h1 h2=>?_⟩
 ·rcases bE q with⟨rfl,p⟩|⟨ne,p⟩
  ·cases p
  ·obtain⟨w,h1,h2⟩:=Hr j e (Ne.symm ne) p;exact⟨w,by rw[vB ne];exact h1,h2.mono c⟩
 ·rcases bE q with⟨rfl,p⟩|⟨ne,p⟩
  ·cases p
   have hi:=mi q s.len;exact⟨a,ob,by simp[hi],hN,h0,Cg.mono c⟩
  ·obtain⟨a',o',h1,h2,h4⟩:=KW j e (Ne.symm ne) p;have h3:H0 a'=none:=by
    obtain⟨a2,_,k1,_,k3,_⟩:=s.ow j e p;rw[h1]at k1;cases k1;exact k3
   exact⟨a',o',by rw[vB ne];exact h1,h2,h3,h4.mono c⟩
 ·rcases bE q with⟨rfl,p⟩|⟨ne,p⟩
  ·rcases bE q' with⟨rfl,p'⟩|⟨EB,p'⟩
   ·rfl
   ·rw[vB EB]at h2;have KY:V.ref a=V.ref b:=by
     rcases bE h1 with⟨_,z⟩|⟨z,_⟩
     ·exact vJ z
     ·exact absurd rfl z
    cases KY
    exact absurd h2 (CM k f p')
  ·rcases bE q' with⟨rfl,p'⟩|⟨EB,p'⟩
   ·rw[vB ne]at h1;have Hs:V.ref a=V.ref b:=by
     rcases bE h2 with⟨_,z⟩|⟨z,_⟩
     ·exact vJ z
     ·exact absurd rfl z
    cases Hs
    exact absurd h1 (CM j e p)
   ·rw[vB ne]at h1;rw[vB EB]at h2;exact s.inj j k b e f p p' h1 h2
end
inductive Res where
 |nx (ρ:Env)|rt (d:D) (b:Bool)|bk (ρ:Env)|ct (ρ:Env)
abbrev FS:=Env->Option Res
def DC (K:Frag)(B0 H0:Hp)(E:Ends):Res->Prop
 |.nx ρ=>∀σ H,q0 K B0 H0 H σ ρ->E.nx σ H
 |.rt d b=>∀v H N,Ext B0 N H0 H->Is K N v d->(b=true->C4 K H0 N v d)->E.rt v H
 |.bk ρ=>∀σ H,q0 K B0 H0 H σ ρ->E.bk σ H
 |.ct ρ=>∀σ H,q0 K B0 H0 H σ ρ->E.ct σ H
def mj (K:Frag)(g:FS):TS:=λE σ H=>∃(B0 H0:Hp)(ρ:Env)(r:Res),q0 K B0 H0 H σ ρ/\g ρ=some r/\DC K B0 H0 E r
section
variable {K:Frag}{B0 H0 N H H':Hp}{σ:St}{ρ:Env}{E:Ends}
theorem dg.writeB (s:dg K B0 H0 N H σ ρ)(hi:ρ[i]? = some (some (d,true)))(hσ:σ[i]? = some (some (V.ref a)))(h:Bx K (cN N (own σ ρ)) ob dd):
  dg K B0 H0 (upd N a ob) (upd H a ob) σ (ρ.set i (some (dd,true))):=by
 have oa:own σ ρ a:=⟨i,d,hi,hσ⟩;obtain⟨ws,hw,h0⟩:=s.owned oa;have b0:B0 a=none:=s.bh.free h0;have o:∀b,own σ (ρ.set i (some (dd,true))) b↔own σ ρ b:=λb=>by
  constructor
  ·rintro⟨j,e,q1,q2⟩;rcases bE q1 with⟨rfl,p⟩|⟨_,p⟩
   ·exact⟨i,d,hi,q2⟩
   ·exact⟨j,e,p,q2⟩
  ·rintro⟨j,e,q1,q2⟩;by_cases z:i=j
   ·subst z;exact⟨i,dd,by rw[List.getElem?_set_self (vV hi).1],q2⟩
   ·exact⟨j,e,by rw[vB z];exact q1,q2⟩
 have c:aO (cN N (own σ ρ)) (cN (upd N a ob) (own σ (ρ.set i (some (dd,true))))):=eC λb u e q=>by
  have ne:b≠a:=λz=>q (z ▸ oa);exact⟨by rw[au ne];exact e,λz=>q ((o b).mp z)⟩
 refine⟨s.bh,s.tb,⟨λb u e=>?_,λb u e=>?_,λb u e=>?_,λb u e=>?_⟩,by rw[List.length_set];exact s.len,λj e q=>?_,λj e q=>?_,λj k b e f q q' h1 h2=>?_⟩
 ·rw[au (λz=>by subst z;rw[h0]at e;cases e)];exact s.ext.hh _ _ e
 ·rw[au (λz=>by subst z;rw[b0]at e;cases e)];exact s.ext.bn _ _ e
 ·by_cases z:b=a
  ·subst z;rw[aw]at e ⊢;exact e
  ·rw[au z]at e ⊢;exact s.ext.nh _ _ e
 ·by_cases z:b=a
  ·subst z;exact .inr h0
  ·rw[au z]at e;exact s.ext.new _ _ e
 ·rcases bE q with⟨rfl,p⟩|⟨ne,p⟩
  ·cases p
  ·obtain⟨v,h1,h2⟩:=s.sh j e p;exact⟨v,h1,h2.mono c⟩
 ·rcases bE q with⟨rfl,p⟩|⟨ne,p⟩
  ·cases p
   exact⟨a,ob,hσ,aw,h0,h.mono c⟩
  ·obtain⟨a',o',h1,h2,h3,h4⟩:=s.ow j e p;have na:a'≠a:=λz=>by subst z;exact ne (s.inj i j _ d e hi p hσ h1)
   exact⟨a',o',h1,by rw[au na];exact h2,h3,h4.mono c⟩
 ·have get:∀ {j:Nat}{e:D},(ρ.set i (some (dd,true)))[j]? = some (some (e,true))->∃e',ρ[j]? = some (some (e',true)):=λ{j e} q=>by
   rcases bE q with⟨rfl,p⟩|⟨ne,p⟩
   ·exact⟨d,hi⟩
   ·exact⟨e,p⟩
  obtain⟨e',q1⟩:=get q;obtain⟨f',q2⟩:=get q';exact s.inj j k b e' f' q1 q2 h1 h2
theorem dg.write (s:dg K B0 H0 N H σ ρ)(hi:ρ[i]? = some (some (d,true)))(hσ:σ[i]? = some (some (V.ref a)))(h:IsL K (cN N (own σ ρ)) vs ds):
  dg K B0 H0 (upd N a (.lst vs)) (upd H a (.lst vs)) σ (ρ.set i (some (.lst ds,true))):=s.writeB hi hσ (.lst h)
theorem dg.tups (s:dg K B0 H0 N H σ ρ):∀a vs,gb K N a vs->gb K (cN N (own σ ρ)) a vs:=λa vs h=>by
 have key:∀u,N a=some u->¬boxed u->cN N (own σ ρ) a=some u:=λu e hu=>by
  rw[ci λz=>?_];exact e;obtain⟨ws,⟨q,qb⟩,_⟩:=s.owned z;rw[e]at q;cases q;exact hu qb
 rcases h with (h|⟨o,h⟩)|h
 ·exact .inl (.inl (key _ h (λq=>q)))
 ·exact .inl (.inr ⟨o,key _ h (λq=>q)⟩)
 ·exact .inr h
theorem dg.flat (s:dg K B0 H0 N H σ ρ)(h:Is K N v d)(n:bw d=true):Is K (cN N (own σ ρ)) v d:=h.keepT s.tups n
theorem dg.flats (s:dg K B0 H0 N H σ ρ)(h:IsL K N v d)(n:bi d=true):IsL K (cN N (own σ ρ)) v d:=h.keepT s.tups n
theorem dg.rebase (s:dg K B0 H0 N H σ ρ):dg K (cN N (own σ ρ)) (cN H (own σ ρ)) N H σ ρ :=
 ⟨eC λa o e q=>⟨s.ext.nh _ _ e,q⟩,s.tbC,⟨bG,bG,s.ext.nh,λa o e=>by
  by_cases q:own σ ρ a
  ·exact .inr (qz q)
  ·exact .inl (by rw[ci q];exact e)⟩,s.len,s.sh,λi d q=>by
   obtain⟨a,o,h1,h2,_,h4⟩:=s.ow i d q;exact⟨a,o,h1,h2,qz ⟨i,d,q,h1⟩,h4⟩,s.inj⟩
theorem dg.unbase (s:dg K B0 H0 N H σ ρ)(t:dg K (cN N (own σ ρ)) (cN H (own σ ρ)) N' H' σ' ρ'):dg K B0 H0 N' H' σ' ρ':=by
 have h0:aO H0 (cN H (own σ ρ)):=λa o e=>by
  rw[ci λz=>?_];exact s.ext.hh _ _ e;obtain⟨_,_,q⟩:=s.owned z;rw[q]at e;cases e
 have b0:aO B0 (cN N (own σ ρ)):=λa o e=>by
  rw[ci λz=>?_];exact s.ext.bn _ _ e;obtain⟨_,_,q⟩:=s.owned z;rw[s.bh _ _ e]at q;cases q
 refine⟨s.bh,s.tb,⟨h0.trans t.ext.hh,b0.trans t.ext.bn,t.ext.nh,λa o e=>?_⟩,t.len,t.sh,λi d q=>?_,t.inj⟩
 ·rcases t.ext.new a o e with z|z
  ·exact s.ext.new a o (bG _ _ z)
  ·exact .inr (h0.free z)
 ·obtain⟨a,o,h1,h2,h3,h4⟩:=t.ow i d q;exact⟨a,o,h1,h2,h0.free h3,h4⟩
theorem dg.based (t:dg K B0 H0 N H σ ρ):aO B0 (cN N (own σ ρ)):=λa o e=>by
 rw[ci λz=>?_];exact t.ext.bn _ _ e;obtain⟨_,_,q⟩:=t.owned z;rw[t.bh _ _ e]at q;cases q
@[simp] noncomputable def aD (g h:FS):FS:=λρ=>match g ρ with|some (.nx ρ')=>h ρ'|r=>r
@[simp] noncomputable def aU:FS:=λρ=>some (.nx ρ)
@[simp] noncomputable def di (c:FT)(g h:FS):FS:=λρ=>match c ρ with|some true=>g ρ|some false=>h ρ|none=>none
@[simp] noncomputable def aX (f:FE):FS:=λρ=>(f ρ).map λx=>.rt x.1 x.2
@[simp] noncomputable def Af:D->Bool
 |.dk _ _=>true
 |.dt _ _=>true
 |_=>false
@[simp] def j5 (i:Nat):FS:=λρ=>match ρ[i]? with|some (some (d,b))=>some (.rt d (b && !Af d))|_=>none
@[simp] def Ag:D->Bool
 |.lst ds=>bi ds
 |_=>false
@[simp] def setE (ρ:Env)(i:Nat)(d:D)(b:Bool):Env :=
 if bw d=true then ρ.set i (some (d,false))else if b=true/\Ag d=true then ρ.set i (some (d,true))else (unown ρ).set i (some (d,false))
@[simp] def bt (i:Nat)(f:FE):FS:=λρ=>(f ρ).map λx=>.nx (setE ρ i x.1 x.2)
@[simp] def ID (i:Nat)(f:FE):FS:=λρ=>(f (mW ρ)).map λx=>.nx (ρ.set i (some (x.1,false)))
@[simp] def ni (i:Nat)(f:FE):FS:=λρ=>match ρ[i]? with
 |some (some (.lst ds,true))=>(f ρ).bind λx=>if bw x.1=true/\ds.length<sizeLine then some (.nx (ρ.set i (some (.lst (ds++[x.1]),true))))else none
 |_=>none
theorem rJ (q:mj K (aD g h) E σ H):Dg (mj K g) (mj K h) E σ H:=by
 obtain⟨B0,H0,ρ,r,s,e,p⟩:=q;unfold aD at e;cases eg:g ρ with
 |none=>rw[eg]at e;cases e
 |some r1=>
  rw[eg]at e;cases r1 with
  |nx ρ'=>exact⟨B0,H0,ρ,.nx ρ',s,eg,λσ' H' s'=>⟨B0,H0,ρ',r,s',e,p⟩⟩
  |rt d b=>cases e;exact⟨B0,H0,ρ,_,s,eg,p⟩
  |bk ρ'=>cases e;exact⟨B0,H0,ρ,_,s,eg,p⟩
  |ct ρ'=>cases e;exact⟨B0,H0,ρ,_,s,eg,p⟩
theorem o6 (q:mj K aU E σ H):zV E σ H:=by
 obtain⟨B0,H0,ρ,r,s,e,p⟩:=q;cases e
 exact p σ H s
theorem q0.grown (s:dg K B0 H0 N H σ ρ)(h:aO H H'):q0 K B0 H0 H' σ ρ:=⟨N,s.grow (.grow s.ext.nh h)⟩
theorem vf (q:mj K (di c g h) E σ H):Di (t6 K c) (mj K g) (mj K h) E σ H:=by
 obtain⟨B0,H0,ρ,r,⟨N,s⟩,e,p⟩:=q;unfold di at e;cases ec:c ρ with
 |none=>rw[ec]at e;cases e
 |some b=>
  rw[ec]at e;refine⟨N,ρ,b,s.ext.nh,s.rep,ec,λH1 h1=>?_⟩;cases b with
  |true=>rw[if_pos rfl];exact⟨B0,H0,ρ,r,.grown s h1,e,p⟩
  |false=>rw[if_neg (by decide)];exact⟨B0,H0,ρ,r,.grown s h1,e,p⟩
theorem rK (q:mj K (aX f) E σ H):xV (tD K f) E σ H:=by
 obtain⟨B0,H0,ρ,r,⟨N,s⟩,e,p⟩:=q;obtain⟨x,ex,e⟩:=oY e;subst e;exact⟨N,ρ,x.1,x.2,s.ext.nh,s.rep,ex,λv H1 N1 x1 i1 f1=>p v H1 N1 (s.ext.trans x1) i1 λb=>(f1 b).back s.ext.hh⟩
theorem vg (q:mj K (j5 i) E σ H):xV (om i) E σ H:=by
 obtain⟨B0,H0,ρ,r,⟨N,s⟩,e,p⟩:=q;unfold j5 at e;split at e
 ·rename_i d b ei;cases e
  cases b with
  |false=>
   obtain⟨v,h1,h2⟩:=s.sh i d ei;exact⟨v,h1,p v H N s.ext (h2.mono bG) (by simp)⟩
  |true=>
   obtain⟨a,o,h1,h2,h3,h4⟩:=s.ow i d ei;cases h4 with
   |lst h4=>exact⟨_,h1,p _ H N s.ext (.lst (fZ.of h2) (h4.mono bG)) λ_=>⟨a,_,_,rfl,rfl,h3,h2,h4.mono bG⟩⟩
   |dk hl h4=>exact⟨_,h1,p _ H N s.ext (.dk h2 hl (h4.mono bG)) (by simp)⟩
   |dt hl h4=>exact⟨_,h1,p _ H N s.ext (.dt h2 hl (h4.mono bG)) (by simp)⟩
 ·cases e
theorem dg.setE (s:dg K B0 H0 N H σ ρ)(x:Ext N N1 H H1)(h:Is K N1 v d)(f:b=true->C4 K H N1 v d):dg K B0 H0 N1 H1 (σ.set i (some v)) (setE ρ i d b):=by
 have s1:=s.grow x;unfold DL.setE;by_cases hn:bw d=true
 ·rw[if_pos hn];exact s1.bind (s1.flat h hn)
 ·rw[if_neg hn];by_cases hb:b=true/\Ag d=true
  ·rw[if_pos hb];obtain⟨a,vs,ds,rfl,rfl,ha,hN,hs⟩:=f hb.1;have IZ:N a=none:=s.ext.nh.free ha;have KZ:¬own σ ρ a:=λz=>by obtain⟨ws,⟨q,_⟩,_⟩:=s.owned z;rw[IZ]at q;cases q
   have c:aO (cN N (own σ ρ)) (cN N1 (λb=>own σ ρ b∨b=a)):=eC λb u e q=>⟨x.bn _ _ e,λz=>z.elim q λz=>by subst z;rw[IZ]at e;cases e⟩;refine s1.bindOwn hN (s.ext.hh.free ha) (λj e q z=>KZ ⟨j,e,q,z⟩) (λj e _ q=>?_) (λj e _ q=>?_) (.lst (hs.keepT (λt ts st=>?_) hb.2))
   ·obtain⟨w,h1,h2⟩:=s.sh j e q;exact⟨w,h1,h2.mono c⟩
   ·obtain⟨a',o',h1,h2,_,h4⟩:=s.ow j e q;exact⟨a',o',h1,x.bn _ _ h2,h4.mono c⟩
   ·have key:∀u,N1 t=some u->¬boxed u->cN N1 (λb=>own σ ρ b∨b=a) t=some u:=λu e hu=>by
     rw[ci λz=>?_];exact e;rcases z with z|z
     ·obtain⟨ws,⟨q,qb⟩,_⟩:=s1.owned z;rw[e]at q;cases q;exact hu qb
     ·subst z;rw[e]at hN;cases hN;exact hu trivial
    rcases st with (st|⟨o,st⟩)|st
    ·exact .inl (.inl (key _ st (λq=>q)))
    ·exact .inl (.inr ⟨o,key _ st (λq=>q)⟩)
    ·exact .inr st
  ·rw[if_neg hb];exact s1.unown.bind (h.mono λa o e=>by rw[ci jk];exact e)
theorem nj (q:mj K (bt i f) E σ H):uD (tD K f) (iH i) E σ H:=by
 obtain⟨B0,H0,ρ,r,⟨N,s⟩,e,p⟩:=q;obtain⟨x,ex,e⟩:=oY e;subst e;exact⟨N,ρ,x.1,x.2,s.ext.nh,s.rep,ex,λv H1 N1 x1 i1 f1=>p _ H1 ⟨N1,s.setE x1 i1 f1⟩⟩
theorem yx (q:mj K (ni i f) E σ H):∃(a:Addr)(us:List V),σ[i]? = some (some (V.ref a))/\H a=some (.lst us)/\kl (tD K f) tm σ H λxs H2=>rH (.ref a) xs H2 λ_ H3=>E.nx σ H3:=by
 obtain⟨B0,H0,ρ,r,⟨N,s⟩,e,p⟩:=q;unfold ni at e;split at e
 ·rename_i ds ei;obtain⟨x,ex,e⟩:=oX e;split at e
  ·rename_i hx;cases e
   obtain⟨a,vs,z8,z,h1,h2,h3,h4⟩:=s.owL i _ ei;cases z
   refine⟨a,vs,h1,s.ext.nh _ _ h2,N,ρ,x.1,x.2,s.ext.nh,s.rep,ex,λv H1 N1 x1 i1 f1=>⟨a,vs,v,rfl,rfl,x1.hh _ _ (s.ext.nh _ _ h2),by rw[h4.length];exact hx.2,?_⟩⟩;have s1:=s.grow x1;obtain⟨a',Ja,z8,z,k1,k2,_,k4⟩:=s1.owL i _ ei;cases z
   rw[h1]at k1;cases k1;rw[x1.bn _ _ h2]at k2;cases k2;exact p σ _ ⟨_,s1.write ei h1 (k4.append (.cons (s1.flat i1 hx.1) .nil))⟩
  ·cases e
 ·cases e
end
noncomputable def vh (c:FT)(g:FS):Nat->Env->Option Res
 |0,_=>none
 |n+1,ρ=>match c ρ with
  |some true=>match g ρ with
   |some (.nx ρ')=>vh c g n ρ'
   |some (.ct ρ')=>vh c g n ρ'
   |some (.bk ρ')=>some (.nx ρ')
   |r=>r
  |some false=>some (.nx ρ)
  |none=>none
def lJ (K:Frag)(J:It)(B:Hp)(ds:List D):Prop:=∀(i:Nat)(H:Hp),aO B H ->
 (∀d,ds[i]? = some d->J.go i H/\∀x H',J.yld i H x H'->∃N,Ext B N H H'/\Is K N x d)/\(ds.length<=i->J.stop i H)
def IE (K:Frag)(f:FA):TI:=λσ H R=>∃(B:Hp)(ρ:Env)(ds:List D),aO B H/\dD K B σ ρ/\f ρ=some ds/\∀(J:It)(H' N:Hp),Ext B N H H'->lJ K J N ds->R J H'
abbrev FG:=D->Env->Option Env
def yy (K:Frag)(tg:FG)(g:TG):Prop:=∀(B0 H0 N H:Hp)(σ:St)(ρ ρ':Env)(v:V)(d:D)(Q:St->Hp->Prop),dg K B0 H0 N H σ ρ->Is K (cN N (own σ ρ)) v d->tg d ρ=some ρ' ->
 (∀σ' H',q0 K B0 H0 H' σ' ρ'->Q σ' H')->g v σ H Q
@[simp] noncomputable def fM (i:Nat):FG:=λd ρ=>some (ρ.set i (some (d,false)))
theorem g9:yy K (fM i) (iH i):=by
 intro B0 H0 N H σ ρ ρ' v d Q s h e k;cases e
 exact k _ H ⟨N,s.bind h⟩
noncomputable def ge (tg:FG)(g:FS):List D->Env->Option Res
 |[],ρ=>some (.nx ρ)
 |d::ds,ρ=>(tg d ρ).bind λρ1=>match g ρ1 with
  |some (.nx ρ')=>ge tg g ds ρ'
  |some (.ct ρ')=>ge tg g ds ρ'
  |some (.bk ρ')=>some (.nx ρ')
  |r=>r
@[simp] theorem vi (tg:FG)(g:FS)(ρ:Env):ge tg g [] ρ=some (.nx ρ):=by rw[ge]
@[simp] theorem jl (tg:FG)(g:FS)(d:D)(ds:List D)(ρ:Env):ge tg g (d::ds) ρ=(tg d ρ).bind λρ1=>match g ρ1 with
  |some (.nx ρ')=>ge tg g ds ρ'
  |some (.ct ρ')=>ge tg g ds ρ'
  |some (.bk ρ')=>some (.nx ρ')
  |r=>r:=by rw[ge]
@[simp] def t7 (f:FA)(tg:FG)(g:FS):FS:=λρ=>(f (mW ρ)).bind λds=>ge tg g ds ρ
theorem o7 (ht:yy K tg t)(s1:dg K B0 H0 N H1 σ ρ)(c:aO N1 (cN N (own σ ρ)))(J1:lJ K J N1 ds)(e:ge tg g ds ρ=some r)(p:DC K B0 H0 E r):
  ∃W:Nat->Nat->St->Hp->Prop,(∃m,W 0 m σ H1)/\∀i m σ H,W i m σ H->(J.stop i H/\E.nx σ H)∨(J.go i H/\∃N:St->Hp->Prop,(∀σ' H',N σ' H'->∃m',m'<m/\W (i+1) m' σ' H')/\∀x H',J.yld i H x H'->t x σ H' λσ2 H2=>mj K g { E with nx:=N,ct:=N,bk:=E.nx } σ2 H2):=by
 refine⟨λi m σ H=>∃(N:Hp)(ρ:Env),dg K B0 H0 N H σ ρ/\aO N1 (cN N (own σ ρ))/\m=ds.length - i/\i<=ds.length/\ge tg g (ds.drop i) ρ=some r,⟨ds.length,_,ρ,s1,c,rfl,uN _,e⟩,?_⟩;clear e s1 c;rintro i m σ H ⟨N,ρ,s,c,rfl,hi,e⟩;have hs:aO N1 H:=c.trans (bG.trans s.ext.nh);obtain⟨j1,j2⟩:=J1 i H hs;by_cases fG:i<ds.length
 ·obtain⟨go,yl⟩:=j1 ds[i] (by simp[fG]);rw[List.drop_eq_getElem_cons fG]at e;obtain⟨ρ1,e1,e⟩:=oX e;refine .inr ⟨go,λσ' H'=>∃(N:Hp)(ρ:Env),dg K B0 H0 N H' σ' ρ/\aO N1 (cN N (own σ' ρ))/\ge tg g (ds.drop (i+1)) ρ=some r,λσ' H' ⟨N',ρ',s',c',e'⟩=>⟨_,by omega,N',ρ',s',c',rfl,fG,e'⟩,λx H' y=>?_⟩;obtain⟨N2,x2,i2⟩:=yl x H' y;have x3:Ext (cN N (own σ ρ)) (join (cN N (own σ ρ)) N2) H H':=by
   refine⟨x2.hh,cT,λa o e=>?_,λa o e=>?_⟩
   ·cases q:cN N (own σ ρ) a with
    |some u=>rw[cT _ _ q]at e;cases e;exact x2.hh _ _ (s.ext.nh _ _ (bG _ _ q))
    |none=>rw[cG q]at e;exact x2.nh _ _ e
   ·cases q:cN N (own σ ρ) a with
    |some u=>rw[cT _ _ q]at e;cases e;exact .inl rfl
    |none=>
     rw[cG q]at e;rcases x2.new a o e with z|z
     ·rw[c _ _ z]at q;cases q
     ·exact .inr z
  obtain⟨s2,c2⟩:=s.growH x3;have c3:aO N2 (join (cN N (own σ ρ)) N2):=λa o e=>by
   rcases x2.new a o e with z|z
   ·exact cT _ _ (c _ _ z)
   ·rw[cG ((bG.trans s.ext.nh).free z)];exact e
  have i3:=i2.mono (c3.trans c2);have c4:aO N1 (cN (join N (join (cN N (own σ ρ)) N2)) (own σ ρ)):=(x2.bn.trans c3).trans c2;refine ht _ _ _ _ _ _ _ _ _ _ s2.rebase i3 e1 λσ2 H2 ⟨N4,s4⟩=>?_;cases eg:g ρ1 with
  |none=>rw[eg]at e;cases e
  |some r1=>
   rw[eg]at e;refine⟨_,_,ρ1,r1,⟨N4,s4⟩,eg,?_⟩;have back:∀ {σ':St}{H':Hp}{ρ':Env}{N':Hp},dg K _ _ N' H' σ' ρ'->dg K B0 H0 N' H' σ' ρ'/\aO N1 (cN N' (own σ' ρ')):=λt=>⟨s2.unbase t,c4.trans t.based⟩;cases r1 with
   |nx ρ'=>exact λσ' H' ⟨N',t⟩=>⟨N',ρ',(back t).1,(back t).2,e⟩
   |ct ρ'=>exact λσ' H' ⟨N',t⟩=>⟨N',ρ',(back t).1,(back t).2,e⟩
   |bk ρ'=>cases e;exact λσ' H' ⟨N',t⟩=>p σ' H' ⟨N',(back t).1⟩
   |rt d b=>
    cases e
    intro v H' N' x' i' f';have y:=s2.rebase.ext;have h0:aO H0 (cN H' (λ_=>False)):=λa o e=>by rw[ci (λz=>z)];exact x'.hh _ _ (by
     rw[ci λz=>?_];exact s2.ext.hh _ _ e;obtain⟨_,_,q⟩:=s2.owned z;rw[q]at e;cases e)
    have Mv:aO H0 (cN H' (λ_=>False)):=h0;have hH:aO H0 (cN H' (λ_=>False)):=h0;have hc:∀a,cN H' (λ_=>False) a=H' a:=λa=>ci (λz=>z);have hb:aO H0 (cN _ (own σ ρ)):=λa o e=>by
     rw[ci λz=>?_];exact s2.ext.hh _ _ e;obtain⟨_,_,q⟩:=s2.owned z;rw[q]at e;cases e
    have bb:aO B0 (cN _ (own σ ρ)):=λa o e=>by
     rw[ci λz=>?_];exact s2.ext.bn _ _ e;obtain⟨_,_,q⟩:=s2.owned z;rw[s2.bh _ _ e]at q;cases q
    refine p v H' N' ⟨hb.trans x'.hh,bb.trans x'.bn,x'.nh,λa o e=>?_⟩ i' λz=>(f' z).back hb;rcases x'.new a o e with z|z
    ·exact s2.ext.new a o (bG _ _ z)
    ·exact .inr (hb.free z)
 ·have ei:i=ds.length:=by omega
  subst ei;rw[List.drop_eq_nil_of_le (vT _)]at e;cases e
  exact .inl ⟨j2 (vT _),p σ H ⟨N,s⟩⟩
theorem yz (ht:yy K tg t)(q:mj K (t7 f tg g) E σ H):AV (IE K f) t (mj K g) E σ H:=by
 obtain⟨B0,H0,ρ,r,⟨N,s⟩,e,p⟩:=q;obtain⟨ds,ef,e⟩:=oX e;refine⟨cN N (own σ ρ),mW ρ,ds,bG.trans s.ext.nh,s.repH,ef,λJ H1 N1 x1 J1=>?_⟩;obtain⟨s1,c⟩:=s.growH x1;exact o7 ht s1 c J1 e p
def C5 (K:Frag)(f:FA):TI:=λσ H R=>∃(B:Hp)(ρ:Env)(ds:List D),aO B H/\dD K B σ ρ/\f ρ=some ds/\∀(J:It)(H' N:Hp),Ext B N H H'->(∀B',lJ K J B' ds)->R J H'
@[simp] def fN (f:FA)(tg:FG)(g:FS):FS:=λρ=>(f ρ).bind λds=>ge tg g ds ρ
theorem o8 (ht:yy K tg t)(q:mj K (fN f tg g) E σ H):AV (C5 K f) t (mj K g) E σ H:=by
 obtain⟨B0,H0,ρ,r,⟨N,s⟩,e,p⟩:=q;obtain⟨ds,ef,e⟩:=oX e;refine⟨N,ρ,ds,s.ext.nh,s.rep,ef,λJ H1 N1 x1 J1=>?_⟩;exact o7 ht (s.grow x1) (aO.refl _) (J1 _) e p
end DL
namespace DL
open PySem PySem.Spec PyProof.Rows L2
abbrev JE (X:Cx)(e:Expr)(f:FE):Prop:=PE X e (tD X.K f)
abbrev JT (X:Cx)(e:Expr)(f:FT):Prop:=PT X e (t6 X.K f)
abbrev JW (X:Cx)(e:Expr)(f:FT):Prop:=PW X e (t6 X.K f)
abbrev JA (X:Cx)(es:List Expr)(f:FA):Prop:=PA X es (DB X.K f)
abbrev JS (X:Cx)(st:Stmt)(g:FS):Prop:=PS X st (mj X.K g)
abbrev nZ (X:Cx)(st:List Stmt)(g:FS):Prop:=kh X st (mj X.K g)
abbrev JI (X:Cx)(tg bR:Expr)(f:FA):Prop:=PI X tg bR (IE X.K f)
def Bq (M:Model)(A:Around)(l7:List Expr)(lS:Expr)(env:PySem.Env)(je:Value)(E:Value->Shared->Prop)(P:Shared->Prop):Shared->Prop :=
 wpAny M A (forIn l7 true λc r=>if r=true then do let ok ←isTrue c env (eval c env);pure (ForInStep.yield ok)else pure (ForInStep.yield r))
  (λok s₃=>if ok=true then wpAny M A (eval lS env) (λx=>wpAny M A (call (.builtin "list.append") [je,x]) (λ_=>P) E) E s₃ else P s₃) E
theorem nk {E:Value->Shared->Prop}(hE:∀x s,¬E x s)(I:Nat->Shared->Prop)
  (Ce:∀n s,I n s->wpAny (model prog w) A (pyNext it) (λr s₁=>match r with
   |none=>R (.ok .next) s₁
   |some v=>wpAny (model prog w) A (letOwnedTupleGo lw it v) (λ_=>wpAny (model prog w) A (assign lw env v) (λ_=>Bq (model prog w) A l7 lS env je E λs=>∃m,m<n/\I m s) E) E s₁) E s)
  (n:Nat) (h:I n s):codeAny (model prog w) A (.compLoop (.ListComp lS [⟨lw,bR,l7,0⟩] scope pos) 0 it je env) R s:=by
 refine codeAny_loop rfl I (λn s hI=>?_) n h;show wpAny _ A ((compTurn (.ListComp lS [⟨lw,bR,l7,0⟩] scope pos) 0 it je env).onRaise (λx=>do noteFrame x env;theTreesLotGoes x)) _ _ s;refine wpAny_noted (wpAny_mono (E:=E) ?_ (λ_ _ q=>q) λ_ _ z=>(hE _ _ z).elim);rw[compTurn_list];refine wX (wpAny_standAt (wX (bX (Ce n s hI) λr s₁ h₁=>?_)));cases r with
 |none=>exact wY h₁
 |some v=>
  refine wX (bX h₁ λ_ s₁ h₁=>wX (bX h₁ λ_ s₂ h₂=>wX (bX h₂ λok s₃ h₃=>?_)));cases ok with
  |false=>exact wY ⟨rfl,h₃⟩
  |true=>exact wX (wX (bX h₃ λx s₄ h₄=>wX (bX h₄ λ_ s₅ h₅=>wY (wY ⟨rfl,h₅⟩))))
theorem Ext.upd (x:Ext B N H H')(h:H a=none)(hN:N a=none):Ext B N H (upd H' a o) :=
 ⟨λb u e=>by rw[au (λz=>by subst z;rw[h]at e;cases e)];exact x.hh _ _ e,x.bn,λb u e=>by rw[au (λz=>by subst z;rw[hN]at e;cases e)];exact x.nh _ _ e,x.new⟩
noncomputable abbrev ft (X:Cx)(N':List Str)(scope:Scope)(cl:List (Str×Addr))(C:Addr)(s₃:Shared)(H₃:Hp)(fp:List Addr):Cx :=
 { X with N:=N',s₀:=s₃,H₀:=H₃,env:=compEnvC scope cl C X.env,outer:=X.stack,stack:=X.stack,ex:=fp,fn:=λ_=>false,pn:=[],xe:=λ_ _=>False }
inductive jf (X:Cx)(N':List Str)(scope:Scope)(cl:List (Str×Addr)):Nat->List Nat->Prop where
 |nil {j:Nat}(h:N'.length=j):jf X N' scope cl j []
 |cons {j i:Nat}{r:List Nat}{x:Str}(h1:N'[j]? = some x) (h2:X.N[i]? = some x) (h3:X.env.kindOf x=some .cell∨X.env.kindOf x=some .free)
   (h4:(relabel scope X.env).names.lookup x=some .cell∨(relabel scope X.env).names.lookup x=some .free) (h5:cl.lookup x=X.env.cells.lookup x) (t:jf X N' scope cl (j+1) r):jf X N' scope cl j (i::r)
theorem jf.len:∀ {j:Nat}{cap:List Nat},jf X N' scope cl j cap->N'.length=j+cap.length
 |_,_,.nil h=>by rw[h];rfl
 |j,i::r,.cons _ _ _ _ _ t=>by rw[t.len,vD];omega
theorem jf.get:∀ {j:Nat}{cap:List Nat}{k i:Nat},jf X N' scope cl j cap->cap[k]? = some i->∃x,N'[j+k]? = some x/\X.N[i]? = some x/\(X.env.kindOf x=some .cell∨X.env.kindOf x=some .free) /\
  ((relabel scope X.env).names.lookup x=some .cell∨(relabel scope X.env).names.lookup x=some .free)/\cl.lookup x=X.env.cells.lookup x
 |_,_,_,_,.nil _,e=>by simp at e
 |j,_,0,_,.cons h1 h2 h3 h4 h5 _,e=>by simp at e;subst e;exact⟨_,h1,h2,h3,h4,h5⟩
 |j,_,k+1,i,.cons _ _ _ _ _ t,e=>by
  obtain⟨x,q,r⟩:=t.get (k:=k) (i:=i) (by simpa using e);exact⟨x,by rw[show j+(k+1)=j+1+k by omega];exact q,r⟩
structure CompSc (X:Cx)(scope:Scope)(cl:List (Str×Addr)):Prop where
 clos:closureFor scope X.env=pure cl
 nocell:∀y∈scope.names,y.2≠.cell
 kind:scope.kind=.function
 names:∀y∈scope.names,y.2=.local->scope.names.lookup y.1=some .local
 sub:∀x c,cl.lookup x=some c->X.env.cells.lookup x=some c
 has:∀x,((relabel scope X.env).names.lookup x=some .cell∨(relabel scope X.env).names.lookup x=some .free)->∃c,cl.lookup x=some c
noncomputable def dj:List (Str×NameKind)->List (Str×Addr)->List (Str×Addr)->List (Str×Addr)
 |[],_,cs=>cs
 | (n,k)::r,cells,cs=>dj r cells (if k == .free then (match cells.lookup n with|some c=>(n,c)::cs|none=>cs)else cs)
theorem t8:∀(names:List (Str×NameKind))(cs:List (Str×Addr)),(∀y∈names,y.2=.free->(env.cells.lookup y.1).isSome=true) ->
    (do let mut cs:=cs
        for (name,kind)in names do
          if kind == .free then cs:=(name,←cellOf env name)::cs
        return cs:Sem (List (Str×Addr)))=pure (dj names env.cells cs):=by
  intro names;induction names with
  |nil=>intro cs _;rfl
  |cons y r ih=>
    intro cs h;obtain⟨n,k⟩:=y;have EE:=λcs=>ih cs λy hy=>h y (mZ _ hy);by_cases hk:k=.free
    . subst hk;have hc:=h (n,.free) mX rfl;cases q:env.cells.lookup n with
      |none=>rw[q]at hc;cases hc
      |some c=>
        have e1:dj ((n,.free)::r) env.cells cs=dj r env.cells ((n,c)::cs):=by
          rw[dj,q];rfl
        rw[e1,←EE ((n,c)::cs)];have e2:cellOf env n=pure c:=by unfold cellOf;rw[q]
        simp only[List.forIn_cons,beq_self_eq_true,if_true,e2];rfl
    . have hb:(k == NameKind.free)=false:=by simpa using hk
      have e1:dj ((n,k)::r) env.cells cs=dj r env.cells cs:=by rw[dj,hb];rfl
      rw[e1,←EE cs];simp only[List.forIn_cons,hb,uV,if_false];rfl
theorem kr:∀(names:List (Str×NameKind))(cs:List (Str×Addr)),(∀y d,cs.lookup y=some d->cells.lookup y=some d)->(dj names cells cs).lookup x=some c->cells.lookup x=some c
 |[],cs,h,e=>h x c e
 | (n,k)::r,cs,h,e=>by
  rw[dj]at e;refine kr r _ (λy d q=>?_) e;split at q
  ·split at q
   ·rename_i c' ec;rw[List.lookup_cons]at q;split at q
    ·rename_i hy;cases q
     rw[eq_of_beq hy];exact ec
    ·exact h y d q
   ·exact h y d q
  ·exact h y d q
theorem ml:∀(names:List (Str×NameKind))(cs:List (Str×Addr)),(cs.lookup x).isSome=true->((dj names cells cs).lookup x).isSome=true
 |[],cs,h=>h
 | (n,k)::r,cs,h=>by
  rw[dj];refine ml r _ ?_;split
  ·split
   ·rw[List.lookup_cons];split
    ·rfl
    ·exact h
   ·exact h
  ·exact h
theorem ku:∀(names:List (Str×NameKind))(cs:List (Str×Addr)),(x,NameKind.free)∈names->(cells.lookup x).isSome=true->((dj names cells cs).lookup x).isSome=true
 | (n,k)::r,cs,hm,hc=>by
  rw[dj];rcases vP hm with e|e
  ·cases e
   refine ml r _ ?_;cases q:cells.lookup x with
   |none=>rw[q]at hc;cases hc
   |some c=>simp
  ·exact ku r _ e hc
theorem ig {α:Type}{x:Str}{k:α}:∀ {l:List (Str×α)},l.lookup x=some k->(x,k)∈l
 | (n,j)::r,h=>by
  rw[List.lookup_cons]at h;split at h
  ·rename_i e;cases h
   rw[eq_of_beq e];exact mX
  ·exact mZ _ (ig h)
theorem Br {X:Cx}{scope:Scope}(h1:∀y∈scope.names,y.2≠.cell)(h2:scope.kind=.function)(h3:∀y∈scope.names,y.2=.local->scope.names.lookup y.1=some .local)(Hv:(scope.names.all λy=>!(y.2 == NameKind.free) || (X.env.cells.lookup y.1).isSome)=true):
  CompSc X scope (dj scope.names X.env.cells []):=by
 have h4:∀y∈scope.names,y.2=.free->(X.env.cells.lookup y.1).isSome=true:=λy hy e=>by
  have:=uR Hv y hy;rw[e]at this;simpa using this
 have frees:∀x,((relabel scope X.env).names.lookup x=some .cell∨(relabel scope X.env).names.lookup x=some .free)->(x,NameKind.free)∈scope.names:=λx h=>by
  have:∃k,(x,k)∈(relabel scope X.env).names/\(k=.cell∨k=.free):=by
   rcases h with h|h
   ·exact⟨_,ig h,.inl rfl⟩
   ·exact⟨_,ig h,.inr rfl⟩
  obtain⟨k,hm,hk⟩:=this;obtain⟨⟨n,j⟩,hj,e⟩:=vO hm;dsimp only at e;split at e
  ·rename_i hc;rw[vC,vC]at hc;cases e
   rw[←eq_of_beq hc.1.1];exact hj
  ·cases e
   rcases hk with rfl|rfl
   ·exact absurd rfl (h1 _ hj)
   ·exact hj
 exact⟨t8 scope.names [] h4,h1,h2,h3,λx c e=>kr scope.names [] (λy d q=>by cases q) e,λx h=>by
  have:=ku (x:=x) scope.names [] (frees x h) (h4 _ (frees x h) rfl);exact Option.isSome_iff_exists.mp this⟩
theorem y0 {scope:Scope}{cells:List (Str×Addr)}{x:Str}(h:(x,NameKind.free)∈scope.names)(hc:(cells.lookup x).isSome=true):(dj scope.names cells []).lookup x=cells.lookup x:=by
 obtain⟨c,e⟩:=Option.isSome_iff_exists.mp (ku (x:=x) scope.names [] h hc);rw[e,kr scope.names [] (λy d q=>by cases q) e]
noncomputable def t9 (nT:Nat)(cap:List Nat)(σ:St):St:=List.replicate nT none++cap.map λi=>(σ[i]?).join
noncomputable def fj (nT:Nat)(cap:List Nat)(ρ:Env):Env:=List.replicate nT none++cap.map λi=>match ρ[i]? with|some (some (d,_))=>some (d,false)|_=>none
theorem rL {α:Type}{nT:Nat}{cap:List Nat}{f:Nat->Option α}{j:Nat}{v:α}(h:(List.replicate nT none++cap.map f)[j]? = some (some v)):∃k i,j=nT+k/\cap[k]? = some i/\f i=some v:=by
 by_cases hj:j<nT
 ·rw[List.getElem?_append_left (by simpa using hj),List.getElem?_replicate,if_pos hj]at h;cases h
 ·rw[List.getElem?_append_right (by simpa using Nat.not_lt.mp hj),List.length_replicate,vA]at h;obtain⟨i,h1,h2⟩:=oY h;exact⟨j - nT,i,by omega,h1,h2⟩
theorem y2 {α:Type}{nT:Nat}{cap:List Nat}{f:Nat->Option α}{k i:Nat}{v:α}(h1:cap[k]? = some i)(h2:f i=some v):(List.replicate nT none++cap.map f)[nT+k]? = some (some v):=by
 rw[List.getElem?_append_right (by simp),List.length_replicate,vA,Nat.add_sub_cancel_left,h1];simp[h2]
theorem dD.caps {K:Frag}{B:Hp}{σ:St}{ρ:Env}{nT:Nat}{cap:List Nat}(h:dD K B σ ρ):dD K B (t9 nT cap σ) (fj nT cap ρ):=⟨h.tb,λj d b q=>by
 obtain⟨k,i,rfl,h1,h2⟩:=rL q;split at h2
 ·rename_i d' b' e;cases h2
  obtain⟨v,g1,g2⟩:=h.at' i _ _ e;exact⟨v,y2 h1 (by rw[g1];rfl),g2⟩
 ·cases h2⟩
noncomputable def dR (tg:FG)(c:FT)(fe:FE)(ρ:Env):List D->Option (List D)
 |[]=>some []
 |d::r=>(tg d ρ).bind λρ1=>(c ρ1).bind λb=>if b=true then (fe ρ1).bind λx=>(dR tg c fe ρ r).map (x.1 :: ·)else dR tg c fe ρ r
@[simp] theorem C6 (tg:FG)(c:FT)(fe:FE)(ρ:Env):dR tg c fe ρ []=some []:=by rw[dR]
@[simp] theorem q8 (tg:FG)(c:FT)(fe:FE)(ρ:Env)(d:D)(r:List D):dR tg c fe ρ (d::r)=(tg d ρ).bind λρ1=>(c ρ1).bind λb=>if b=true then (fe ρ1).bind λx=>(dR tg c fe ρ r).map (x.1 :: ·)else dR tg c fe ρ r:=by rw[dR]
@[simp] def bN (fi:FA)(nT:Nat)(cap:List Nat)(tg:FG)(c:FT)(fe:FE):FE:=λρ=>(fi ρ).bind λam=>if am.length<=sizeLine then (dR tg c fe (fj nT cap ρ) am).map λds=>(.lst ds,true)else none
def Ah (K:Frag)(n:Nat)(tg:FG)(g:TG):Prop:=∀(B H:Hp)(σ:St)(ρ ρ1:Env)(v:V)(d:D)(Q:St->Hp->Prop),(∀i,i<n->ρ[i]? = some none)->dD K B σ ρ->aO B H->Is K B v d->tg d ρ=some ρ1 ->
 ρ.length=σ.length->(∀σ1,dD K B σ1 ρ1->(∀B',dD K B' σ ρ->dD K B' σ1 ρ)->ρ.length=σ1.length->Q σ1 H)->g v σ H Q
theorem o9 {K:Frag}{n i:Nat}(hi:i<n):Ah K n (fM i) (iH i):=by
 intro B H σ ρ ρ1 v d Q cl rep s h e hl k;cases e
 have ur:i<σ.length:=by
  have:=(vV (cl i hi)).1;omega
 refine k _ ⟨rep.tb,λj e b q=>?_⟩ ?_ (by simpa using hl)
 ·rcases bE q with⟨rfl,p⟩|⟨ne,p⟩
  ·cases p
   exact⟨v,by simp[ur],h⟩
  ·obtain⟨w,h1,h2⟩:=rep.at' j e b p;exact⟨w,by rw[vB ne];exact h1,h2⟩
 ·intro B' EF;refine⟨EF.tb,λj e b q=>?_⟩;obtain⟨w,h1,h2⟩:=EF.at' j e b q;have ne:i≠j:=λz=>by subst z;rw[cl i hi]at q;cases q
  exact⟨w,by rw[vB ne];exact h1,h2⟩
def JC (X:Cx)(l7:List Expr)(c:FT):Prop:=∀(ac:List (Addr×Obj))(s:Shared)(σ:St)(H:Hp)(Q:Bool->Hp->Prop),Inv X ac σ H s->t6 X.K c σ H Q ->
 wq X (forIn l7 true λc r=>if r=true then do let ok ←isTrue c X.env (eval c X.env);pure (ForInStep.yield ok)else pure (ForInStep.yield r)) (TP X ac σ Q) X.xe s
@[simp] noncomputable def dw:FT:=λ_=>some true
theorem fu:JC X [] dw:=by
 intro ac s σ H Q I h;obtain⟨B,ρ,c,sB,rep,e,q⟩:=h;cases e
 exact wpAny_tests_nil ⟨H,I,q H (.refl H)⟩
theorem np (h:JT X e f):JC X [e] f:=λac s σ H Q I q=>wpAny_tests_one (h ac s σ H Q I q)
inductive CI (Y:Cx)(tn:Nat->Heap->Prop)(fp:List Addr)(N1 H2:Hp)(κ:Env)(a:Addr)(l:List D->Option (List D))(am ds:List D)(s:Shared):Nat->Prop
 |mk (i:Nat) (N:Hp) (vs:List V) (es r:List D) (σ:St) (H:Hp) (I:Inv Y [] σ H s) (ti:tn i s.heap) (hn:∀b∈fp,H b=none) (hi:i<=am.length) (rp:dD Y.K N1 σ κ) (hl:κ.length=σ.length)
   (x:Ext N1 N H2 H) (n0:N a=none) (h0:H a=some (.lst vs)) (vl:vs.length<=i) (iv:IsL Y.K N vs es) (er:l (am.drop i)=some r) (ed:es++r=ds):CI Y tn fp N1 H2 κ a l am ds s (am.length - i)
theorem Ext.both (x:Ext N1 N H2 H)(y:Ext N1 N' H H'):Ext N (join N N') H H'/\aO N' (join N N'):=by
 refine⟨⟨y.hh,cT,λa o e=>?_,λa o e=>?_⟩,λa o e=>?_⟩
 ·cases z:N a with
  |some u'=>rw[cT _ _ z]at e;cases e;exact y.hh _ _ (x.nh _ _ z)
  |none=>rw[cG z]at e;exact y.nh _ _ e
 ·cases z:N a with
  |some u'=>rw[cT _ _ z]at e;cases e;exact .inl rfl
  |none=>
   rw[cG z]at e;exact(y.new a o e).elim (λz'=>by rw[x.bn _ _ z']at z;cases z) .inr
 ·exact(y.new a o e).elim (λz=>cT _ _ (x.bn _ _ z)) λz=>by rw[cG (x.nh.free z)];exact e
theorem Ext.off (x:Ext B N H H')(h:B a=none)(h':H a=some o):N a=none:=by
 cases z:N a with
 |none=>rfl
 |some u=>
  rcases x.new _ _ z with z|z
  ·rw[h]at z;cases z
  ·rw[h']at z;cases z
theorem tE {Y:Cx}(gt:Y.calm=true)(hE:∀x s,¬Y.xe x s)(hg:PG Y tg g)(xw:Ah Y.K nT jM g)(hc:JC Y l7 fc)(he:JE Y lS fe)(T:Turn Y.prog Y.w Y.K tg J fp it tn)(EG:∀i,i<nT->κ[i]? = some none)
  (J1:lJ Y.K J N1 am) (hsz:am.length<=sizeLine) (hD:H2 a=none) (Hw:∀H',(∀b∈fp,H' b=none)->∀b∈fp,iI Y [] H' b)
  (hR:∀s4 σ' H' N vs,Inv Y [] σ' H' s4->Ext N1 N H2 H'->N a=none->H' a=some (.lst vs)->IsL Y.K N vs ds->R (.ok .next) s4) (h:CI Y tn fp N1 H2 κ a (dR jM fc fe κ) am ds s am.length):
  codeAny (model Y.prog Y.w) Y.A (.compLoop (.ListComp lS [⟨tg,bR,l7,0⟩] scope pos) 0 (.ref it) (.ref a) Y.env) R s:=by
 refine nk hE (λn s=>CI Y tn fp N1 H2 κ a (dR jM fc fe κ) am ds s n) (λn s' h=>?_) _ h;obtain⟨i,N,vs,es,r,σ',H',I',ti,hn,hi,rp,bS,x,FV,EH,Cj,EI,er,FW⟩:=h;have sH:aO N1 H':=x.bn.trans x.nh;by_cases fG:i<am.length
 ·obtain⟨go,yl⟩:=(J1 i H' sH).1 am[i] (by simp[fG]);refine bX (T.item Y rfl rfl rfl gt i [] s' σ' H' Y.xe I' (Hw _ hn) ti go) λq s4 ⟨u,eu,hq⟩=>?_;subst eu;refine bX hq λ_ s5 ⟨xv,H5,I5,rx,y5,t5,Hj⟩=>?_;obtain⟨N5,x5,i5⟩:=yl xv H5 y5;obtain⟨x6,c5⟩:=x.both x5;have Jb:(join N N5) a=none:=x6.off FV EH;have FY:aO (join N N5) H5:=x6.nh;rw[List.drop_eq_getElem_cons fG]at er;unfold dR at er;obtain⟨ρ1,e1,er⟩:=oX er;obtain⟨b,e2,er⟩:=oX er;have g0:∀(s9:Shared)(σ9:St)(H9 N9:Hp)(EK:List V)(FZ r9:List D),Inv Y (ji fp s5.heap) σ9 H9 s9->dD Y.K N1 σ9 κ->κ.length=σ9.length->Ext N1 N9 H2 H9->N9 a=none->H9 a=some (.lst EK) ->
    EK.length<=i+1->IsL Y.K N9 EK FZ->dR jM fc fe κ (am.drop (i+1))=some r9->FZ++r9=ds->∃m,m<am.length - i/\CI Y tn fp N1 H2 κ a (dR jM fc fe κ) am ds s9 m:=λs9 σ9 H9 N9 EK FZ r9 I9 La l9 x9 n9 h9 v9 i9 Lb Lc=>
   ⟨_,by omega,i+1,N9,EK,FZ,r9,σ9,H9,I9.pins_of λp hp=>by simp at hp,T.keep _ _ _ t5 λb hb o e=>(I9.pin (b,o) (mY _ (gc hb e))).1,λb hb=>by
    obtain⟨o,e,d⟩:=T.obj _ _ t5 b hb;exact(I9.pin (b,o) (mY _ (gc hb e))).2.1,fG,La,l9,x9,n9,h9,v9,i9,Lb,Lc⟩
  refine bX (hg (ji fp s5.heap) s5 σ' H5 xv u (λσ6 H6=>H6=H5/\dD Y.K (join N N5) σ6 ρ1/\dD Y.K N1 σ6 κ/\κ.length=σ6.length) (I5.pinned (Hw _ Hj) (T.obj _ _ t5)) rx
   (xw (join N N5) H5 σ' κ ρ1 xv am[i] _ EG (rp.mono (x.bn.trans cT)) FY (i5.mono c5) e1 bS λσ1 r1 r2 l1=>⟨rfl,r1,r2 N1 rp,l1⟩)) λ_ s6 ⟨σ6,H6,I6,eH,Jc,Jd,l6⟩=>?_
  subst eH;have Hx:H6 a=some (.lst vs):=x5.hh _ _ EH;refine bX (hc _ s6 σ6 H6 (λc H7=>c=b/\aO H6 H7) I6 ⟨join N N5,ρ1,b,FY,Jc,e2,λH7 h7=>⟨rfl,h7⟩⟩) λok s7 ⟨H7,I7,eb,h7⟩=>?_;subst eb;have x7:Ext N1 (join N N5) H2 H7:=(x.trans x6).trans (.grow FY h7);cases ok with
  |false=>
   rw[if_neg (by decide)]at er ⊢;exact g0 s7 σ6 H7 (join N N5) vs es r I7 Jd l6 x7 Jb (h7 _ _ Hx) (Nat.le_succ_of_le Cj) (EI.mono cT) er FW
  |true=>
   rw[if_pos rfl]at er ⊢;obtain⟨y,e3,er⟩:=oX er;obtain⟨r',e4,er⟩:=oY er;subst er;refine bX (he _ s7 σ6 H7 (λv H8=>∃N8,Ext (join N N5) N8 H7 H8/\Is Y.K N8 v y.1) I7 ⟨join N N5,ρ1,y.1,y.2,FY.trans h7,Jc,e3,λv H8 N8 x8 i8 _=>⟨N8,x8,i8⟩⟩) λw8 s8 ⟨v8,H8,I8,r8,N8,x8,i8⟩=>?_;refine bX (mf _ s8 σ6 H8 (.ref a) [v8] (.ref a) [w8] (λ_ H9=>H9=upd H8 a (.lst (vs++[v8]))) I8 rfl (.cons r8 .nil) ⟨_,vs,v8,rfl,rfl,x8.hh _ _ (h7 _ _ Hx),by omega,rfl⟩) λ_ s9 ⟨_,H9,I9,_,e9⟩=>?_;subst e9;have Je:=x8.off Jb (h7 _ _ Hx);exact g0 s9 σ6 _ N8 (vs++[v8]) (es++[y.1]) r' I9 Jd l6 ((x7.trans x8).upd hD Je) Je aw (by rw[uZ,List.length_singleton];omega) ((EI.mono (cT.trans x8.bn)).append (.cons i8 .nil)) e4 (by rw[List.append_assoc];exact FW)
 ·obtain rfl:i=am.length:=by omega
  rw[List.drop_eq_nil_of_le (vT _)]at er;cases er
  rw[uQ]at FW;subst FW;refine bX (T.done Y rfl rfl rfl gt am.length [] s' σ' H' Y.xe I' (Hw _ hn) ti ((J1 _ H' sH).2 (vT _))) λq s4 ⟨hq,I9⟩=>?_;subst hq;exact hR s4 σ' H' N vs I9 x FV EH EI
theorem kx {X:Cx}(gt:X.calm=true){tg bR lS:Expr}{l7:List Expr}{scope:Scope}{pos:Pos}{cl:List (Str×Addr)}{N':List Str}{nT:Nat}{cap:List Nat}{jM:FG}{g:TG}{fc:FT}{fe:FE}
  (S:CompSc X scope cl) (cp:jf X N' scope cl nT cap)
  (hg:∀C s H fp,PG (ft X N' scope cl C s H fp) tg g) (xw:Ah X.K nT jM g) (hc:∀C s H fp,JC (ft X N' scope cl C s H fp) l7 fc) (he:∀C s H fp,JE (ft X N' scope cl C s H fp) lS fe)
  {ac:List (Addr×Obj)}{σ:St}{H2:Hp}{s2:Shared}{it:Addr}{fp:List Addr}{tn:Nat->Heap->Prop}{J:It}{N1:Hp}{ρ:Env}{am ds:List D}{E:Value->Shared->Prop}
  (I2:Inv X ac σ H2 s2) (T:Turn X.prog X.w X.K tg J fp it tn) (rj:tn 0 s2.heap) (f2:∀b∈fp,iI X ac H2 b)
  (rep:dD X.K N1 σ ρ) (sN:aO N1 H2) (J1:lJ X.K J N1 am) (hsz:am.length<=sizeLine) (ec:dR jM fc fe (fj nT cap ρ) am=some ds) {RR:Value->Addr->Result->Shared->Prop}
  (Ld:∀(Dd C:Addr)(s':Shared)(H' N:Hp)(vs:List V)(m:Str->Option Value),H2 Dd=none->Inv X ac σ H' s'->s'.heap.Ns C m->iI X ac H' C->Ext N1 N H2 H'->N Dd=some (.lst vs)->IsL X.K N vs ds->RR (.ref Dd) C (.ok .next) s'):
  wq X (newList []) (λje s₃=>wq X (newFunctionEnv scope X.env.globals cl [] X.env.qual none .none (some X.env)) (λEL s₄=>
   codeAny (model X.prog X.w) X.A (.compStart (.ListComp lS [⟨tg,bR,l7,0⟩] scope pos) 0 (.ref it) je { EL with scope:=relabel scope X.env }) (RR je EL.locals) s₄) E s₃) E s2:=by
 refine wpAny_newObj_type (wpAny_newFunctionEnv S.nocell (by intro y hy;simp at hy) (λh₁ rm hsb₁=>?_) S.kind);dsimp only at rm hsb₁ ⊢;have hD:H2 s2.heap.objs.size=none:=I2.fresh;have I3:Inv X ac σ (upd H2 s2.heap.objs.size (.lst [])) { s2 with heap:=s2.heap.push { cls:=.type "list",dict:=none,data:=.seq ([]:List Value).toArray } }:=I2.lnew (t':=s2.toks) (ys:=[]) (its:=[]) .nil (uN _);generalize hH3:s2.heap.push { cls:=.type "list",dict:=none,data:=.seq ([]:List Value).toArray }=g3 at rm hsb₁ I3 ⊢;have hC:g3.objs.size=s2.heap.objs.size+1:=by rw[←hH3,Heap.size_push]
 have z9:∀b o,s2.heap.get? b=some o->g3.get? b=some o:=λb o e=>hH3 ▸ vZ _ e;have uw:∀b o,g3.get? b=some o->h₁.get? b=some o:=λb o e=>hsb₁.extBut b o (vS (vX e)) (vZ _ e);have CH:∀b o,g3.get? b=some o->b≠g3.objs.size:=λb o e=>vS (vX e);have Jf:∀b∈fp,∃o,s2.heap.get? b=some o:=λb hb=>let ⟨o,e,_⟩:=T.obj 0 s2.heap rj b hb;⟨o,e⟩;have Le:∀b∈fp,b≠s2.heap.objs.size:=λb hb=>let ⟨o,e⟩:=Jf b hb;vS (vX e);have Jg:∀b∈fp,b≠g3.objs.size:=λb hb=>let ⟨o,e⟩:=Jf b hb;CH b o (z9 b o e);have Jh:∀x c,X.env.cells.lookup x=some c->c≠g3.objs.size:=λx c e=>by
  obtain⟨v,z⟩:=I3.cell x c e;exact vS z.lt
 have Lf:(upd H2 s2.heap.objs.size (HO.lst [])) g3.objs.size=none:=I3.hok.fresh (vT _);have stk:∀b∈lC X.stack,∃o,s2.heap.get? b=some o:=λb hb=>by
  obtain⟨_,o,ho,_⟩:=(I2.stack).mem hb;exact⟨o,ho⟩
 -- the block's context
 let Y:Cx:=ft X N' scope cl g3.objs.size { s2 with heap:=g3 } (upd H2 s2.heap.objs.size (.lst [])) fp;have ok:Y.Ok:=by
  refine⟨I2.ok.mod,?_,I2.ok.glob,I2.ok.blt,vT _,λx y c e1 e2=>I2.ok.inj x y c (S.sub x c e1) (S.sub y c e2),λx h=>S.has x h,λx c h=>absurd h uX,I2.ok.hd,I2.ok.frames,.inl rfl,λb hb=>⟨Jg b hb,λx c e=>(f2 b hb).2.2.2.2.1 x c (S.sub x c e)⟩,λb o e=>?_,?_,λb o e hb=>?_,λb hb hz=>?_,I3.stack,λb hb=>I3.stkFree b hb⟩
  ·show(relabel scope X.env).kind=.function;exact S.kind
  ·exact I3.bs b o e
  ·exact vR I3.ok.bsz I3.sz
  ·have h1:=(f2 b hb).2.2.2.1;rcases h1 with z|z
   ·exact I2.ok.noex b o e z
   ·exact absurd (vQ (vX e) (vR I2.ok.bsz z)) (Nat.lt_irrefl _)
  ·rcases vP (I2.stkSub b hz)with z|z
   ·exact(f2 b hb).2.1 z
   ·exact(f2 b hb).2.2.1 z
 have I4:Inv Y [] (t9 nT cap σ) (upd H2 s2.heap.objs.size (.lst [])) { s2 with heap:=h₁,toks:=s2.toks+([]:List (Str×Value)).length }:=by
  refine⟨ok,rfl,I2.bare,Un.kept uw,⟨_,rm,λj x v e1 e2 e3=>?_⟩,λx c e=>?_,Lf,λx c e=>I3.freeC x c (S.sub x c e),λp hp=>absurd (show p∈[]from hp) List.not_mem_nil,I3.hok.kept uw,?_⟩
  ·obtain⟨k,i,rfl,h1,h2⟩:=rL e2;obtain⟨y,g1,g2,Ji,g4,g5⟩:=cp.get h1;have Jj:N'[nT+k]? = some x:=e1;rw[g1]at Jj;cases Jj;have Hs:σ[i]? = some (some v):=by
    cases q:σ[i]? with
    |none=>rw[q]at h2;cases h2
    |some z=>rw[q]at h2;have:z=some v:=h2;rw[this]
   obtain⟨m,_,hl⟩:=I3.loc;obtain⟨u,r,l⟩:=hl i _ v g2 Hs (Ji.elim (λz=>.inr (.inl z)) λz=>.inr (.inr z));refine⟨u,r,?_⟩;rcases l with⟨l,_⟩|⟨_,c,lc,ic⟩
   ·rcases Ji with z|z<;>(rw[z]at l;cases l)
   ·refine .inr ⟨g4,c,by show cl.lookup _=some c;rw[g5];exact lc,?_⟩;obtain⟨o,ho,hd⟩:=ic;exact⟨o,uw _ _ ho,hd⟩
  ·obtain⟨v,o,ho,hd⟩:=I3.cell x c (S.sub x c e);exact⟨v,o,uw _ _ ho,hd⟩
  ·show(t9 nT cap σ).length=N'.length;unfold t9;rw[cp.len];simp
 have ut:∀s₃:Shared,s₃={ s2 with heap:=h₁,toks:=s2.toks+([]:List (Str×Value)).length }->codeAny (model Y.prog Y.w) Y.A (.compLoop (.ListComp lS [⟨tg,bR,l7,0⟩] scope pos) 0 (.ref it) (.ref s2.heap.objs.size) Y.env) (RR (.ref s2.heap.objs.size) g3.objs.size) s₃:=by
  rintro s₃ rfl;refine tE (Y:=Y) gt (λ_ _ z=>z) (hg _ _ _ _) xw (hc _ _ _ _) (he _ _ _ _) T (λi hi=>?_) J1 hsz hD (λH' hn b hb=>⟨hn b hb,Jg b hb,ok.exfs b hb,.inl hb,λx c e=>(f2 b hb).2.2.2.2.1 x c (S.sub x c e),λp hp=>absurd (show p∈[]from hp) List.not_mem_nil⟩) (λs4 σ' H' N vs I9 x FV EH EI=>?_)
   ⟨0,N1,[],[],ds,t9 nT cap σ,_,I4,T.keep _ _ _ rj λb hb o e=>uw _ _ (z9 _ _ e),λb hb=>?_,uN _,rep.caps,?_,(Ext.refl sN).upd hD (sN.free hD),sN.free hD,aw,uN _,.nil,by simpa using ec,rfl⟩
  ·unfold fj;rw[List.getElem?_append_left (by simpa using hi),List.getElem?_replicate,if_pos hi]
  ·obtain⟨m,hm,_⟩:=I9.loc;have k:aO N (upd N s2.heap.objs.size (.lst vs)):=λa o e=>by rw[au (λz=>by subst z;rw[FV]at e;cases e)];exact e
   refine Ld s2.heap.objs.size g3.objs.size s4 H' (upd N s2.heap.objs.size (.lst vs)) vs m hD (I2.call' (ch:=fp) I9.os ((Un.laid z9 (vT _) hD).trans I9.base) I9.hok I9.bare λb hb=>⟨(f2 b hb).2.2.2.1,(f2 b hb).2.1,(f2 b hb).2.2.2.2.1,(f2 b hb).2.2.2.2.2⟩) hm (I2.fpOk (by rw[hC];exact Nat.le_succ _) I9.free) ⟨x.hh,x.bn.trans k,λa o e=>?_,λa o e=>?_⟩ aw (EI.mono k)
   ·by_cases z:a=s2.heap.objs.size
    ·subst z;rw[aw]at e;cases e;exact EH
    ·rw[au z]at e;exact x.nh _ _ e
   ·by_cases z:a=s2.heap.objs.size
    ·subst z;exact .inr hD
    ·rw[au z]at e;exact x.new _ _ e
  ·rw[au (Le b hb)];exact(f2 b hb).1
  ·unfold fj t9;simp
 exact codeAny_compStart_list (ut _ rfl) (T.self _ 0 _ _ _ (T.keep _ _ _ rj λb hb o e=>uw _ _ (z9 _ _ e)) (ut _ rfl))
theorem y3 (gt:X.calm=true) 
  (S:CompSc X scope cl) (cp:jf X N' scope cl nT cap) (hi:JI X tg bR fi)
  (hg:∀C s H fp,PG (ft X N' scope cl C s H fp) tg g) (xw:Ah X.K nT jM g) (hc:∀C s H fp,JC (ft X N' scope cl C s H fp) l7 fc) (he:∀C s H fp,JE (ft X N' scope cl C s H fp) lS fe)
  (hs:∀x,foldedSetIterable bR X.env x=pure x:=by intro _;rfl):
  JE X (.ListComp lS [⟨tg,bR,l7,0⟩] scope pos) (bN fi nT cap jM fc fe):=by
 intro ac s σ H Q I h;obtain⟨B,ρ,d,b,sB,rep,e,q⟩:=h;obtain⟨am,ei,e⟩:=oX e;have hsz:am.length<=sizeLine:=Decidable.byContradiction λz=>by rw[if_neg z]at e;cases e
 rw[if_pos hsz]at e;obtain⟨ds,ec,e⟩:=oY e;cases e
 rw[eval_ListComp];refine wpAny_comprehension_free (use:=none) rfl hs S.clos S.kind S.names (bX (hi ac s σ H (λJ H2=>∃N1,Ext B N1 H H2/\lJ X.K J N1 am) I ⟨B,ρ,am,sB,rep,ei,λJ H2 N1 x1 j1=>⟨N1,x1,j1⟩⟩) λv s1 h1=>bX h1 λFP s2 h2=>?_);obtain⟨it,fp,tn,J,H2,e,I2,T,rj,f2,N1,x1,j1⟩:=h2;subst e;refine kx gt S cp hg xw hc he I2 T rj f2 (rep.mono x1.bn) x1.nh j1 hsz ec (RR:=λje C=>compPost (model X.prog X.w) X.A X.xe none (EP X ac σ Q) je C) ?_;intro Dd C s' H' N vs m hD I' hm fC x hN hl;refine⟨m,hm,λh' hs'=>⟨.ref Dd,H',?_,rfl,q _ H' N (x1.trans x) (.lst (fZ.of hN) hl) λ_=>⟨Dd,vs,ds,rfl,rfl,x1.hh.free hD,hN,hl⟩⟩⟩;obtain⟨c0,c1,c2,c3,c4,c5⟩:=fC;exact I'.turned (t':=s'.toks) (λb o hb e=>(hs'.2 b hb).trans e) c0 c1 c3 c4 c5
theorem y4 (gt:X.calm=true) 
  (hN:X.N.Nodup) (Hy:X.N[i]? = some y) (hy:X.env.kindOf y=some .local)
  (xz:swapsWith (.ListComp lS [⟨tg,bR,l7,0⟩] scope pos) (some (.Name y py)) spos.line X.env=pure true)
  (S:CompSc X scope cl) (cp:jf X N' scope cl nT cap) (hi:JI X tg bR fi)
  (hg:∀C s H fp,PG (ft X N' scope cl C s H fp) tg g) (xw:Ah X.K nT jM g) (hc:∀C s H fp,JC (ft X N' scope cl C s H fp) l7 fc) (he:∀C s H fp,JE (ft X N' scope cl C s H fp) lS fe)
  (hs:∀x,foldedSetIterable bR X.env x=pure x:=by intro _;rfl):
  JS X (.Assign [.Name y py] (.ListComp lS [⟨tg,bR,l7,0⟩] scope pos) spos) (bt i (bN fi nT cap jM fc fe)):=by
 intro ac s σ H E I h;have h2:uD (tD X.K (bN fi nT cap jM fc fe)) (iH i) E σ H:=nj h;obtain⟨B,ρ,d,b,sB,rep,e,q⟩:=h2;obtain⟨am,ei,e⟩:=oX e;have hsz:am.length<=sizeLine:=Decidable.byContradiction λz=>by rw[if_neg z]at e;cases e
 rw[if_pos hsz]at e;obtain⟨ds,ec,e⟩:=oY e;cases e
 rw[exec_Assign_Name_used _ _ _ _ xz];refine wX (wpAny_standAt (wX ?_));show wpAny _ _ (do let _ ←comprehension (.ListComp lS [⟨tg,bR,l7,0⟩] scope pos) scope X.env _ (newList []) false (eval bR X.env) (some (assign (.Name y py) X.env))) _ _ s;refine wX (wpAny_mono (wpAny_comprehension_free (use:=some (assign (.Name y py) X.env)) (Q:=λ_ s'=>SP X ac E .next s') rfl hs S.clos S.kind S.names
  (bX (hi ac s σ H (λJ H2=>∃N1,Ext B N1 H H2/\lJ X.K J N1 am) I ⟨B,ρ,am,sB,rep,ei,λJ H2 N1 x1 j1=>⟨N1,x1,j1⟩⟩) λv s1 h1=>bX h1 λFP s2 h2=>?_)) (λ_ s' hq=>wY (wY hq)) λ_ _ e=>e)
 obtain⟨it,fp,tn,J,H2,e,I2,T,rj,f2,N1,x1,j1⟩:=h2;subst e;refine kx gt S cp hg xw hc he I2 T rj f2 (rep.mono x1.bn) x1.nh j1 hsz ec (RR:=λje C=>compPost (model X.prog X.w) X.A X.xe (some (assign (.Name y py) X.env)) (λ_ s'=>SP X ac E .next s') je C) ?_;intro Dd C s' H' N vs m hD I' hm fC x Jk hl;show wpAny _ _ (assign (.Name y py) X.env (.ref Dd)) _ _ s';obtain⟨c0,c1,c2,c3,c4,c5⟩:=fC;refine wpAny_assign_Name (lU I' hN Hy (.inl hy) (r:=show aI (.ref Dd) (.ref Dd)from rfl) (λs9 I9 ⟨a,sb,ha⟩=>?_) (.inr hy));have nC:C≠a:=by
  rcases ha with z|z
  ·rw[z];exact c1
  ·exact λw=>c4 y a z w.symm
 refine⟨m,hm.sameBut sb nC,λh' hs'=>⟨_,H',?_,q _ H' N (x1.trans x) (.lst (fZ.of Jk) hl) λ_=>⟨Dd,vs,ds,rfl,rfl,x1.hh.free hD,Jk,hl⟩⟩⟩;exact I9.turned (t':=s9.toks) (λb o hb e=>(hs'.2 b hb).trans e) c0 c1 c3 c4 c5
section
variable {X:Cx}{a b c e:Expr}{pos:Pos}
theorem PE.to (h:PE X e t)(k:∀σ H Q,t' σ H Q->t σ H Q):PE X e t':=λac s σ H Q I q=>h ac s σ H Q I (k σ H Q q)
theorem PT.to (h:PT X e t)(k:∀σ H Q,t' σ H Q->t σ H Q):PT X e t':=λac s σ H Q I q=>h ac s σ H Q I (k σ H Q q)
theorem PW.to (h:PW X e t)(k:∀σ H Q,t' σ H Q->t σ H Q):PW X e t':=λwh ac s σ H Q I q=>h wh ac s σ H Q I (k σ H Q q)
theorem PA.to (h:PA X es t)(k:∀σ H Q,t' σ H Q->t σ H Q):PA X es t':=λpos ac s σ H Q I q=>h pos ac s σ H Q I (k σ H Q q)
theorem PS.to {st:Stmt}{t t':TS}(h:PS X st t)(k:∀E σ H,t' E σ H->t E σ H):PS X st t':=λac s σ H E I q=>h ac s σ H E I (k E σ H q)
theorem kh.to {st:List Stmt}{t t':TS}(h:kh X st t)(k:∀E σ H,t' E σ H->t E σ H):kh X st t':=λac s σ H E I q=>h ac s σ H E I (k E σ H q)
theorem PI.to (h:PI X tg it t)(k:∀σ H Q,t' σ H Q->t σ H Q):PI X tg it t':=λac s σ H Q I q=>h ac s σ H Q I (k σ H Q q)
theorem tF {K:Frag}{d:D}{v:V}(i:∀B,Is K B v d){σ:St}{H:Hp}{Q:VK}(h:tD K (fC d) σ H Q):tC v σ H Q:=by
 obtain⟨B,ρ,d',b,s,r,e,q⟩:=h;cases e
 exact q.one s (i B)
theorem ah (i:Nat)(hN:X.N[i]? = some x:=by rfl)(hv:xS X.env.scope x:=by first|exact Or.inl rfl|exact Or.inr (Or.inl rfl)|exact Or.inr (Or.inr rfl))(hd:(x == ("__debug__" : Str))=false:=by decide)
  (gq:(x == ("__classdict__" : Str))=false:=by decide):JE X (.Name x pos) (aj i):=PE.to (cf hN hv hd gq) λ_ _ _ h=>Bp h
theorem al:JE X (.Constant (.int i) j pos) (fC (.int i)):=PE.to AM λ_ _ _ h=>tF (λ_=>.int i) h
theorem eD:JE X (.Constant (.bool i) j pos) (fC (.bl i)):=PE.to u8 λ_ _ _ h=>tF (λ_=>.bl i) h
theorem eE:JE X (.Constant .none j pos) (fC .non):=PE.to u9 λ_ _ _ h=>tF (λ_=>.non) h
theorem av:JE X (.Constant (.str x) j pos) (fC (.str x)):=PE.to AN λ_ _ _ h=>tF (λ_=>.str x) h
theorem y6 (hg:Gl X x)(hm:X.mg x=some u)(r:aI v u)(i:∀B,Is X.K B v d)(hd:(x == ("__debug__" : Str))=false:=by decide):JE X (.Name x pos) (fC d):=PE.to (dW hg hm r hd) λ_ _ _ h=>tF i h
theorem aA (ho:cF X (binaryOp op) (rD X.K f))(ha:JE X a fa)(hb:JE X b fb):JE X (.BinOp a op b pos) (f2 f fa fb):=PE.to (zY ho ha hb) λ_ _ _ h=>yu h
theorem eF (ho:cF X (compareOp op) (rD X.K f))(ha:JE X a fa)(hb:JE X b fb)(hm:behindInMarks op b=false:=by first|exact iF _ (by decide) (by decide)|rfl):JE X (.Compare a [op] [b] pos) (f2 f fa fb):=PE.to (yc ho ha hb hm) λ_ _ _ h=>yu h
theorem nq {K:Frag}{f:FE}{σ:St}{H:Hp}{Q:Bool->Hp->Prop}(h:t6 K (bD f) σ H Q):tD K f σ H λx H'=>∃k,x=.bl k/\Q k H':=by
 obtain⟨B,ρ,c,s,r,e,q⟩:=h;unfold bD at e;split at e
 ·rename_i c' b' ef;cases e
  refine⟨B,ρ,.bl c,b',s,r,ef,λv H' N x i _=>?_⟩;cases i
  exact⟨c,rfl,q H' x.hh⟩
 ·cases e
theorem aL (ho:cF X (compareOp op) (rD X.K f))(ha:JE X a fa)(hb:JE X b fb)(hm:behindInMarks op b=false:=by first|exact iF _ (by decide) (by decide)|rfl):JT X (.Compare a [op] [b] pos) (bD (f2 f fa fb)) :=
 PT.to (rA ho ha hb hm) λ_ _ _ h=>yu (nq h)
theorem cj (h:JE X e f)(he:∀ib,isTrue e X.env ib=(do let v ←ib;standAt e.pos;holding [v] (truthy v)):=by intro _;rfl):JT X e (bD f):=PT.to (qh h he) λ_ _ _ q=>nq q
@[simp] noncomputable def eG (f g:D->D->OB)(fa fb fc:FE):FE:=λρ=>(fa ρ).bind λx=>(fb ρ).bind λy=>match f x.1 y.1 with
 |some (.bl true,_)=>(fc ρ).bind λz=>g y.1 z.1
 |some (.bl false,_)=>some (.bl false,false)
 |_=>none
theorem oA {K:Frag}{f g:D->D->OB}{fa fb fc:FE}{σ:St}{H:Hp}{Q:VK}(h:tD K (eG f g fa fb fc) σ H Q):qo (rD K f) (rD K g) (tD K fa) (tD K fb) (tD K fc) σ H Q:=by
 obtain⟨B,ρ,d,b,s,r,e,q⟩:=h;obtain⟨x,ex,e⟩:=oX e;obtain⟨y,ey,e⟩:=oX e;refine⟨B,ρ,x.1,x.2,s,r,ex,λv H1 N1 x1 i1 _=>⟨N1,ρ,y.1,y.2,x1.nh,r.mono x1.bn,ey,λv2 H2 N2 x2 i2 _=>?_⟩⟩;split at e
 ·rename_i b' ef;obtain⟨z,ez,e⟩:=oX e;refine⟨N2,x.1,y.1,.bl true,b',x2.nh,i1.mono x2.bn,i2,ef,λv3 H3 N3 x3 i3 _=>?_⟩;cases i3
  refine⟨true,rfl,?_⟩;rw[if_pos rfl];refine⟨N3,ρ,z.1,z.2,x3.nh,r.mono (x1.bn.trans (x2.bn.trans x3.bn)),ez,λv4 H4 N4 x4 i4 _=>⟨N4,y.1,z.1,d,b,x4.nh,i2.mono (x3.bn.trans x4.bn),i4,e,?_⟩⟩;exact q.into ((x1.trans x2).trans (x3.trans x4))
 ·rename_i b' ef;cases e
  refine⟨N2,x.1,y.1,.bl false,b',x2.nh,i1.mono x2.bn,i2,ef,λv3 H3 N3 x3 i3 _=>?_⟩;cases i3
  refine⟨false,rfl,?_⟩;rw[if_neg (by decide)];exact(q.into ((x1.trans x2).trans x3)).one x3.nh (.bl false)
 ·cases e
theorem oB (ho:cF X (compareOp op) (rD X.K f))(og:cF X (compareOp uu) (rD X.K g))(ha:JE X a fa)(hb:JE X b fb)(hc:JE X c fc)
  (hm:lastMarks [op,uu] [b,c]=false:=by with_unfolding_all rfl):JE X (.Compare a [op,uu] [b,c] pos) (eG f g fa fb fc):=PE.to (uE ho og ha hb hc hm) λ_ _ _ h=>oA h
theorem oC (ho:cF X (compareOp op) (rD X.K f))(og:cF X (compareOp uu) (rD X.K g))(ha:JE X a fa)(hb:JE X b fb)(hc:JE X c fc)
  (hm:lastMarks [op,uu] [b,c]=false:=by with_unfolding_all rfl):JT X (.Compare a [op,uu] [b,c] pos) (bD (eG f g fa fb fc)):=PT.to (uF ho og ha hb hc hm) λ_ _ _ h=>oA (nq h)
theorem y7 {K:Frag}{f g:FT}{σ:St}{H:Hp}{Q:Bool->Hp->Prop}(h:t6 K (dQ f g) σ H Q):Db (t6 K f) (t6 K g) σ H Q:=by
 obtain⟨B,ρ,c,s,r,e,q⟩:=h;unfold dQ at e;cases ef:f ρ with
 |none=>rw[ef]at e;cases e
 |some k=>
  rw[ef]at e;refine⟨B,ρ,k,s,r,ef,λH1 h1=>?_⟩;cases k with
  |true=>rw[if_pos rfl];exact⟨B,ρ,c,s.trans h1,r,e,λH2 h2=>q H2 (h1.trans h2)⟩
  |false=>rw[if_neg (by decide)];cases e;exact q H1 h1
theorem Bs {K:Frag}{f g:FT}{σ:St}{H:Hp}{Q:Bool->Hp->Prop}(h:t6 K (dO f g) σ H Q):Iu (t6 K f) (t6 K g) σ H Q:=by
 obtain⟨B,ρ,c,s,r,e,q⟩:=h;unfold dO at e;cases ef:f ρ with
 |none=>rw[ef]at e;cases e
 |some k=>
  rw[ef]at e;refine⟨B,ρ,k,s,r,ef,λH1 h1=>?_⟩;cases k with
  |false=>rw[if_neg (by decide)];exact⟨B,ρ,c,s.trans h1,r,e,λH2 h2=>q H2 (h1.trans h2)⟩
  |true=>rw[if_pos rfl];cases e;exact q H1 h1
theorem y8 {K:Frag}{f:FT}{σ:St}{H:Hp}{Q:Bool->Hp->Prop}(h:t6 K (cZ f) σ H Q):Dc (t6 K f) σ H Q:=by
 obtain⟨B,ρ,c,s,r,e,q⟩:=h;obtain⟨k,ek,e⟩:=oY e;subst e;exact⟨B,ρ,k,s,r,ek,λH1 h1=>q H1 h1⟩
variable {ay:List Expr}
theorem gf (ha:JT X a f):JW X (.BoolOp .And [a] pos) f:=xU ha
theorem eI (ha:JT X a f):JW X (.BoolOp .Or [a] pos) f:=qi ha
theorem ij (ha:JT X a f)(hb:JW X (.BoolOp .And (b::ay) pos) g):JW X (.BoolOp .And (a::b::ay) pos) (dQ f g):=PW.to (AS ha hb) λ_ _ _ h=>y7 h
theorem fo (ha:JT X a f)(hb:JW X (.BoolOp .Or (b::ay) pos) g):JW X (.BoolOp .Or (a::b::ay) pos) (dO f g):=PW.to (oo ha hb) λ_ _ _ h=>Bs h
theorem gu (h:JW X e f):JT X e f:=h.pt
theorem cK (ha:JT X a f):JT X (.UnaryOp .Not a pos) (cZ f):=PT.to (mN ha) λ_ _ _ h=>y8 h
@[simp] noncomputable def jO (f g:FE):FE:=λρ=>match f ρ with|some (.bl true,_)=>g ρ|some (.bl false,_)=>some (.bl false,false)|_=>none
@[simp] noncomputable def Bt (f g:FE):FE:=λρ=>match f ρ with|some (.bl true,_)=>some (.bl true,false)|some (.bl false,_)=>g ρ|_=>none
@[simp] noncomputable def vj (f:FE):FE:=λρ=>match f ρ with|some (.bl c,_)=>some (.bl (!c),false)|_=>none
theorem gA (ha:JE X a f)(hb:JE X (.BoolOp .And (b::ay) pos) g):JE X (.BoolOp .And (a::b::ay) pos) (jO f g):=PE.to (mO ha hb) λσ H Q h=>by
 obtain⟨B,ρ,d,k,s,r,e,q⟩:=h;unfold jO at e;split at e
 ·rename_i b' ef;refine⟨B,ρ,_,_,s,r,ef,λv H1 N1 x1 i1 _=>?_⟩;cases i1
  refine⟨true,rfl,?_⟩;rw[if_pos rfl];exact⟨N1,ρ,d,k,x1.nh,r.mono x1.bn,e,q.into x1⟩
 ·rename_i b' ef;cases e
  refine⟨B,ρ,_,_,s,r,ef,λv H1 N1 x1 i1 _=>?_⟩;cases i1
  refine⟨false,rfl,?_⟩;rw[if_neg (by decide)];exact(q.into x1).one x1.nh (.bl false)
 ·cases e
theorem vk (ha:JE X a f)(hb:JE X (.BoolOp .Or (b::ay) pos) g):JE X (.BoolOp .Or (a::b::ay) pos) (Bt f g):=PE.to (Df ha hb) λσ H Q h=>by
 obtain⟨B,ρ,d,k,s,r,e,q⟩:=h;unfold Bt at e;split at e
 ·rename_i b' ef;cases e
  refine⟨B,ρ,_,_,s,r,ef,λv H1 N1 x1 i1 _=>?_⟩;cases i1
  refine⟨true,rfl,?_⟩;rw[if_pos rfl];exact(q.into x1).one x1.nh (.bl true)
 ·rename_i b' ef;refine⟨B,ρ,_,_,s,r,ef,λv H1 N1 x1 i1 _=>?_⟩;cases i1
  refine⟨false,rfl,?_⟩;rw[if_neg (by decide)];exact⟨N1,ρ,d,k,x1.nh,r.mono x1.bn,e,q.into x1⟩
 ·cases e
theorem gg (h:JE X a f):JE X (.BoolOp op [a] pos) f:=qj h
theorem Bu (ha:JE X a f):JE X (.UnaryOp .Not a pos) (vj f):=PE.to (uB ha) λσ H Q h=>by
 obtain⟨B,ρ,d,k,s,r,e,q⟩:=h;unfold vj at e;split at e
 ·rename_i c b' ef;cases e
  refine⟨B,ρ,_,_,s,r,ef,λv H1 N1 x1 i1 _=>?_⟩;cases i1
  exact⟨c,rfl,(q.into x1).one x1.nh (.bl _)⟩
 ·cases e
variable {es:List Expr}
theorem ae:JA X [] af:=PA.to cS λ_ _ _ h=>yw h
theorem ag (ha:JE X e f)(hr:JA X es g)(hs:starEach (e::es) X.env=(false,eval e X.env)::starEach es X.env:=by rfl):JA X (e::es) (aa f g):=PA.to (bI ha hr hs) λ_ _ _ h=>va h
@[simp] noncomputable def aB:List D->OB:=λds=>if ds.length<=sizeLine then some (.tup ds,false)else none
@[simp] noncomputable def b9:List D->OB:=λds=>if ds.length<=sizeLine then some (.lst ds,true)else none
theorem aG {x1}(h:JA X es f):JE X (.Tuple es x1 pos) (fA aB f):=PE.to (Bc h) λσ H Q q=>by
 obtain⟨B,ρ,ds,s,r,e,k⟩:=yv q;refine⟨B,ρ,ds,s,r,e,λvs H1 N1 x1 i1=>?_⟩;obtain⟨B2,Jl,d,b,s2,i2,e2,k2⟩:=k vs H1 N1 x1 i1;unfold aB at e2;split at e2
 ·rename_i hz;cases e2
  refine⟨by rw[i2.length];exact hz,λp hp=>k2 _ _ (upd B2 p (.tup vs)) (.laid s2 hp) (.tup (gb.of aw) (i2.mono (Ext.laid s2 hp).bn)) (by simp)⟩
 ·cases e2
theorem bQ (h:JA X es f):JE X (.List es pos) (fA b9 f):=PE.to (Bd h) λσ H Q q=>by
 obtain⟨B,ρ,ds,s,r,e,k⟩:=yv q;refine⟨B,ρ,ds,s,r,e,λvs H1 N1 x1 i1=>?_⟩;obtain⟨B2,Jl,d,b,s2,i2,e2,k2⟩:=k vs H1 N1 x1 i1;unfold b9 at e2;split at e2
 ·rename_i hz;cases e2
  refine⟨by rw[i2.length];exact hz,λp hp=>k2 _ _ (upd B2 p (.lst vs)) (.laid s2 hp) (.lst (fZ.of aw) (i2.mono (Ext.laid s2 hp).bn)) λ_=>⟨p,vs,Jl,rfl,rfl,hp,aw,i2.mono (Ext.laid s2 hp).bn⟩⟩
 ·cases e2
end
section
variable {X:Cx}
theorem gB (h:cF X f r)(k:∀x y H Q,r' x y H Q->r x y H Q):cF X f r':=λac s σ H x y v u Q I rx ry q=>h ac s σ H x y v u Q I rx ry (k x y H Q q)
noncomputable def xJ (f g:D->D->OB):D->D->OB:=λx y=>match f x y with|some r=>some r|none=>g x y
theorem ky (h:cF X s (rD X.K f))(h':cF X s (rD X.K g)):cF X s (rD X.K (xJ f g)):=by
 intro ac st σ H x y v u Q I rx ry q;obtain⟨B,dx,dy,d,b,sB,ix,iy,e,q⟩:=q;unfold xJ at e;split at e
 ·rename_i r ef;cases e
  exact h ac st σ H x y v u Q I rx ry ⟨B,dx,dy,_,_,sB,ix,iy,ef,q⟩
 ·exact h' ac st σ H x y v u Q I rx ry ⟨B,dx,dy,_,_,sB,ix,iy,e,q⟩
@[simp] noncomputable def q9 (C:Int->Int->Bool)(g:Int->Int->D):D->D->OB
 |.int i,.int j=>if C i j=true then some (g i j,false)else none
 |_,_=>none
theorem nr (h:cF X s (rI C g))(hC:∀i j,C' i j=true->C i j)(hg:∀i j B,Is X.K B (g i j) (g' i j)):cF X s (rD X.K (q9 C' g')):=by
 refine gB h λx y H Q q=>?_;obtain⟨B,dx,dy,d,b,sB,ix,iy,e,q⟩:=q;cases ix<;>try (cases e;done)
 cases iy<;>try (cases e;done)
 rename_i i j;simp only[q9]at e;split at e
 ·rename_i hc;cases e
  exact⟨i,j,rfl,rfl,hC i j hc,q.one sB (hg i j B)⟩
 ·cases e
theorem fO (h:cF X s (xX g))(hg:∀i j B,Is X.K B (g i j) (g' i j)):cF X s (rD X.K (q9 (λ_ _=>true) g')):=by
 refine gB h λx y H Q q=>?_;obtain⟨B,dx,dy,d,b,sB,ix,iy,e,q⟩:=q;cases ix<;>try (cases e;done)
 cases iy<;>try (cases e;done)
 rename_i i j;simp only[q9,if_true]at e;cases e
 exact⟨i,j,rfl,rfl,q.one sB (hg i j B)⟩
abbrev Bv:D->D->OB:=q9 (λ_ _=>true) λi j=>.int (i+j)
abbrev lK:D->D->OB:=q9 (λ_ _=>true) λi j=>.int (i - j)
abbrev DD:D->D->OB:=q9 (λi j=>decide ((-18446744073709551616<i/\i<18446744073709551616)∨(-18446744073709551616<j/\j<18446744073709551616))) λi j=>.int (i*j)
abbrev ik:D->D->OB:=q9 (λ_ j=>decide (0<j/\j<1073741824)) λi j=>.int (i / j)
abbrev bu:D->D->OB:=q9 (λ_ j=>decide (0<j)) λi j=>.int (i % j)
abbrev IF:D->D->OB:=q9 (λ_ _=>true) λi j=>.bl (decide (i<j))
abbrev GA:D->D->OB:=q9 (λ_ _=>true) λi j=>.bl (decide (i<=j))
abbrev F7:D->D->OB:=q9 (λ_ _=>true) λi j=>.bl (decide (j<i))
abbrev IG:D->D->OB:=q9 (λ_ _=>true) λi j=>.bl (decide (j<=i))
theorem DE:cF X (binaryOp .Add) (rD X.K Bv):=fO AX λ_ _ _=>.int _
theorem rM:cF X (binaryOp .Sub) (rD X.K lK):=fO AY λ_ _ _=>.int _
theorem DF:cF X (binaryOp .Mult) (rD X.K DD):=nr AZ (λi j h=>by have h:=of_decide_eq_true h;unfold xZ;omega) λ_ _ _=>.int _
theorem gC:cF X (binaryOp .FloorDiv) (rD X.K ik):=nr ya (λi j h=>by have h:=of_decide_eq_true h;unfold Du;omega) λ_ _ _=>.int _
theorem bO:cF X (binaryOp .Mod) (rD X.K bu):=nr Ba (λ_ _ h=>of_decide_eq_true h) λ_ _ _=>.int _
theorem GB:cF X (compareOp .Lt) (rD X.K IF):=fO Dv λ_ _ _=>.bl _
theorem GC:cF X (compareOp .LtE) (rD X.K GA):=fO Dw λ_ _ _=>.bl _
theorem DG:cF X (compareOp .Gt) (rD X.K F7):=fO Dx λ_ _ _=>.bl _
theorem GD:cF X (compareOp .GtE) (rD X.K IG):=fO Dy λ_ _ _=>.bl _
@[simp] noncomputable def C7 (C:Str->Str->Bool)(g:Str->Str->D):D->D->OB
 |.str i,.str j=>if C i j=true then some (g i j,false)else none
 |_,_=>none
abbrev y9:D->D->OB:=C7 (λi j=>decide (i.length+j.length<=sizeLine)) λi j=>.str (i++j)
abbrev F8:D->D->OB:=C7 (λ_ _=>true) λi j=>.bl (!decide (j.cps.toList<i.cps.toList))
theorem Bw:cF X (binaryOp .Add) (rD X.K y9):=by
 refine gB qp λx y H Q q=>?_;obtain⟨B,dx,dy,d,b,sB,ix,iy,e,q⟩:=q;cases ix<;>try (cases e;done)
 cases iy<;>try (cases e;done)
 rename_i i j;simp only[y9,C7]at e;split at e
 ·rename_i hc;cases e
  exact⟨i,j,rfl,rfl,of_decide_eq_true hc,q.one sB (.str _)⟩
 ·cases e
theorem DH:cF X (compareOp .LtE) (rD X.K F8):=by
 intro ac s σ H x y v u Q I rx ry q;obtain⟨B,dx,dy,d,b,sB,ix,iy,e,q⟩:=q;cases ix<;>try (cases e;done)
 cases iy<;>try (cases e;done)
 rename_i i j;simp only[F8,C7,if_true]at e;cases e
 obtain⟨t,rfl⟩:=rx;obtain⟨t',rfl⟩:=ry;exact PySem.P.le_str ⟨.bl _,H,I,rfl,q.one sB (.bl _)⟩
end
section
variable {X:Cx}{a b c e:Expr}{pos:Pos}{st:Stmt}{ay:List Stmt}
theorem fw:nZ X [] aU:=kh.to iG λ_ _ _ h=>o6 h
theorem ao (h1:JS X st g)(h2:nZ X ay h):nZ X (st::ay) (aD g h):=kh.to (e8 h1 h2) λ_ _ _ q=>rJ q
theorem cy (h1:JS X st g):nZ X [st] g:=dE h1
theorem gD {c:Expr}{a b:List Stmt}{fc:FT}{g h:FS}(hc:JT X c fc)(ha:nZ X a g)(hb:nZ X b h):JS X (.If c a b pos) (di fc g h):=PS.to (lV hc ha hb) λ_ _ _ q=>vf q
theorem vm (he:JE X e f):JS X (.Return (some e) pos) (aX f):=PS.to (ie he) λ_ _ _ q=>rK q
theorem nu (i:Nat)(hN:X.N[i]? = some x:=by rfl)(hv:xS X.env.scope x:=by first|exact Or.inl rfl|exact Or.inr (Or.inl rfl)|exact Or.inr (Or.inr rfl))(hd:(x == ("__debug__" : Str))=false:=by decide)
  (gq:(x == ("__classdict__" : Str))=false:=by decide):JS X (.Return (some (.Name x p)) pos) (j5 i):=PS.to (ie (cf hN hv hd gq)) λ_ _ _ q=>vg q
theorem bq (hN:X.N.Nodup)(he:JE X e f)(hi:X.N[i]? = some x:=by rfl)(hx:zR X.env.scope x:=by first|exact Or.inl rfl|exact Or.inr rfl)(hs:swapsWith e (some (.Name x p)) pos.line X.env=pure false:=by rfl)
  (hf:X.fn x=true∨X.env.scope.names.lookup x=some .local:=by first|exact .inl rfl|exact .inr rfl):JS X (.Assign [.Name x p] e pos) (bt i f):=PS.to (mQ hN hi hx he hs hf) λ_ _ _ q=>nj q
theorem By (hp:PassesOwn (model X.prog X.w) X.A X.env X.xe)(hc:X.calm=true)(hi:JI X tg bR fi)(hg:PG X tg t)(ht:yy X.K jM t)(hb:nZ X body g)
  (hs:∀x,foldedSetIterable bR X.env x=pure x:=by intro _;rfl):JS X (.For tg bR body [] pos) (t7 fi jM g):=PS.to (qm hp hc hi hg hb hs) λ_ _ _ q=>yz ht q
theorem yA (hp:PassesOwn (model X.prog X.w) X.A X.env X.xe)(hc:X.calm=true)(hi:PI X tg bR (C5 X.K fi))(hg:PG X tg t)(ht:yy X.K jM t)(hb:nZ X body g)
  (hs:∀x,foldedSetIterable bR X.env x=pure x:=by intro _;rfl):JS X (.For tg bR body [] pos) (fN fi jM g):=PS.to (qm hp hc hi hg hb hs) λ_ _ _ q=>o8 ht q
theorem qA (he:JE X e f)(hN:X.N[i]? = some x:=by rfl)(hv:xS X.env.scope x:=by first|exact Or.inl rfl|exact Or.inr (Or.inl rfl)|exact Or.inr (Or.inr rfl))(hd:(x == ("__debug__" : Str))=false:=by decide)
  (gq:(x == ("__classdict__" : Str))=false:=by decide)
  (ly:attributeBase (.Name x p) "append" X.env (eval (.Name x p) X.env)=eval (.Name x p) X.env:=by rfl)
  (rl:((backTo cW (starEach [e] X.env)).all (λx=>!x.1) && (backToKw cW (keywordEach [] X.env)).all (λx=>x.1.isSome)
   && decide ([e].length+([]:List Keyword).length+(if([]:List Keyword).isEmpty then 0 else 1)<30))=true:=by rfl)
  (l5:(gW.endLine == cW.line)=true:=by rfl) (hs:starEach [e] X.env=[(false,eval e X.env)]:=by rfl) (xz:swapsWith (.Call (.Attribute (.Name x p) "append" gW) [e] [] cW) none pos.line X.env=pure false:=by rfl):
  JS X (.Expr (.Call (.Attribute (.Name x p) "append" gW) [e] [] cW) pos) (ni i f):=by
 refine PS.to (r0 (uS PySem.F.plainAttrs_list PySem.F.slot_list_append PySem.F.type_list_append mf (cf hN hv hd gq) (bI he cS hs) ly rl l5 hs rfl) xz) λE σ H q=>?_;obtain⟨a,us,h1,h2,k⟩:=yx q;exact⟨_,h1,.inl ⟨rfl,us,fZ.of h2⟩,k⟩
end
@[simp] noncomputable def aZ (g:FS)(n k:Nat):List D->OB:=λds=>if ds.length=n then
 match g (ds.map (λd=>some (d,false))++List.replicate k none) with
 |some (.rt d b)=>some (d,b)
 |some (.nx _)=>some (.non,false)
 |_=>none
 else none
def xK (K:Frag)(f:List D->OB):Sp:=λvs H Q _=>∃(B:Hp)(ds:List D)(d:D)(b:Bool),(aO B H/\Tb K B)/\IsL K B vs ds/\f ds=some (d,b)/\Fin K B H d b Q
theorem kz {K:Frag}{B H:Hp}{vs:List V}{ds:List D}{N:List Str}(sB:aO B H)(tb:Tb K B)(i:IsL K B vs ds):dg K B H B H (L2.cY N vs) (ds.map (λd=>some (d,false))++List.replicate (N.length - vs.length) none):=by
 have nf:∀(j:Nat)(d:D)(b:Bool),(ds.map (λd=>some (d,false))++List.replicate (N.length - vs.length) none:Env)[j]? = some (some (d,b))->b=false/\ds[j]? = some d:=λj d b e=>by
  by_cases hj:j<ds.length
  ·rw[List.getElem?_append_left (by simpa using hj),vA]at e;obtain⟨d',h1,h2⟩:=oY e;cases h2
   exact⟨rfl,h1⟩
  ·rw[List.getElem?_append_right (by simpa using Nat.not_lt.mp hj),List.getElem?_replicate]at e;split at e<;>cases e
 have no:∀a,¬own (L2.cY N vs) (ds.map (λd=>some (d,false))++List.replicate (N.length - vs.length) none) a:=λa ⟨j,d,h,_⟩=>by
  obtain⟨z,_⟩:=nf j d true h;cases z
 refine⟨sB,tb,.refl sB,?_,λj d e=>?_,λj d e=>?_,λj k a d e h=>?_⟩
 ·unfold L2.cY;rw[uZ,uZ,vH,vH,List.length_replicate,List.length_replicate,i.length]
 ·obtain⟨_,e1⟩:=nf j d false e;obtain⟨v,h1,h2⟩:=i.get e1;refine⟨v,?_,h2.mono λa o e=>by rw[ci (no a)];exact e⟩;unfold L2.cY;have hj:j<vs.length:=(vV h1).1;rw[List.getElem?_append_left (by simpa using hj),vA,h1]<;>rfl
 ·obtain⟨z,_⟩:=nf j d true e;cases z
 ·obtain⟨z,_⟩:=nf j d true h;cases z
section
variable {P:Program}{w:World}{K:Frag}{mg:Str->Option Value}{base:Heap}
theorem DI {x qual:Str}{st:Stmt}{f:Addr}{fd:FuncData}{N ps:List Str}{k:Nat}{g:FS}(F:xN K x qual st f fd)(S:FnScope N ps (ar st))
  (hb:∀(bL:Value)(A:Around)(outer:List PySem.Env)(s:Shared)(H:Hp)(E:XK),cD k (A.deeper (envOfC qual (ar st) s.heap.objs.size f bL))->nZ (eB ko P w K mg base N qual (ar st) f bL A outer s H E).nox (ba st) g):
  eZ P w K mg base ko (k+1) f fd ps (xK K (aZ g ps.length (N.length - ps.length))):=by
 have len:∀vs H Q E,xK K (aZ g ps.length (N.length - ps.length)) vs H Q E->vs.length=ps.length:=λvs H Q E h=>by
  obtain⟨B,ds,d,b,sB,i,e,q⟩:=h;unfold aZ at e;split at e
  ·rename_i hl;rw[i.length];exact hl
  ·cases e
 refine F.ok S len λbL A outer s H vs Q E hr h=>⟨_,hb bL A outer s H E hr,?_⟩;have bS:=len vs H Q E h;obtain⟨B,ds,d,b,sB,i,e,q⟩:=h;unfold aZ at e;rw[if_pos (by rw[←i.length];exact bS)]at e;have s0:=kz (N:=N) sB.1 sB.2 i;rw[bS]at s0;split at e
 ·rename_i d' b' eg;cases e
  exact⟨B,H,_,_,⟨B,s0⟩,eg,λv H' N' x' i' f'=>q v H' N' x' i' f'⟩
 ·rename_i ρ' eg;cases e
  exact⟨B,H,_,_,⟨B,s0⟩,eg,λσ' H' ⟨N',s'⟩=>q .non H' N' s'.ext .non (by simp)⟩
 ·cases e
structure Fn (P:Program)(w:World)(K:Frag)(mg:Str->Option Value)(base:Heap)(k:Nat)(x:Str)(f:List D->OB):Prop where
 ex:∃(ad:Addr)(fd:FuncData)(ps:List Str),eZ P w K mg base ko k ad fd ps (xK K f)/\mg x=some (.ref ad)/\PySem.W.keepIn K (.ref ad)=true/\eA K fd ps []
theorem Fn.eq (F:Fn P w K mg base k x f)(h:∀ds r,f' ds=some r->f ds=some r):Fn P w K mg base k x f':=by
 obtain⟨ad,fd,ps,F1,h2⟩:=F.ex;exact⟨ad,fd,ps,F1.imp λvs H Q E ⟨B,ds,d,b,sB,i,e,q⟩=>⟨B,ds,d,b,sB,i,h _ _ e,q⟩,h2⟩
end
theorem rN (F:Fn X.prog X.w X.K X.mg X.base k x f)(hr:cD k X.A)(ha:JA X (e::es) fa)(hg:Gl X x:=by rfl)
  (lx:(x == ("__debug__" : Str))=false:=by decide) (he:starEach (e::es) X.env=(false,eval e X.env)::starEach es X.env:=by rfl) (hpl:(backTo pos (starEach es X.env)).any (·.1)=false:=by rfl):
  JE X (.Call (.Name x p) (e::es) [] pos) (fA f fa):=by
 obtain⟨ad,fd,ps,F1,hm,hk,hb⟩:=F.ex;refine PE.to (rC F1 hr hg hm hk hb .nil Ad ha lx he hpl) λσ H Q q=>?_;obtain⟨B,ρ,d,b,s,r,e,q⟩:=q;obtain⟨ds,ex,e⟩:=oX e;exact⟨B,ρ,ds,s,r,ex,λvs H1 N1 x1 i1=>by
  show xK X.K f (vs++[]) H1 Q _;rw[uQ];exact⟨N1,ds,d,b,⟨x1.nh,r.tb.mono x1.bn⟩,i1,e,q.into x1⟩⟩
mutual
@[simp] def cE:D->D->Bool
 |.non,.non=>true
 |.bl a,.bl b=>a == b
 |.bl a,.int b=>decide ((if a then 1 else 0)=b)
 |.int a,.bl b=>decide (a=(if b then 1 else 0))
 |.int a,.int b=>decide (a=b)
 |.str a,.str b=>decide (a=b)
 |.tup xs,.tup ys=>gv xs ys
 |.lst xs,.lst ys=>gv xs ys
 |_,_=>false
@[simp] def gv:List D->List D->Bool
 |[],[]=>true
 |x::xs,y::ys=>cE x y && gv xs ys
 |_,_=>false
end
@[simp] theorem oE (a:Str)(b:Str):cE (.str a) (.str b)=decide (a=b):=by simp only[cE]
@[simp] noncomputable def aM:Nat->D->Bool
 |_,.non=>true
 |_,.bl _=>true
 |_,.int _=>true
 |_,.str _=>true
 |_,.ty _=>false
 |_,.dk _ _=>false
 |_,.dt _ _=>false
 |0,.tup _=>false
 |0,.lst _=>false
 |n+1,.tup ds=>ds.all (aM n)
 |n+1,.lst ds=>ds.all (aM n)
theorem oF:∀ {xs ys:List D},gv xs ys=true->xs.length=ys.length
 |[],[],_=>rfl
 |x::xs,y::ys,h=>by
  simp only[gv,vC]at h;rw[vD,vD,oF h.2]
 |[],_::_,h=>by simp[gv]at h
 |_::_,[],h=>by simp[gv]at h
theorem rO (h:xs.length≠ys.length):gv xs ys=false:=by
 cases e:gv xs ys with
 |false=>rfl
 |true=>exact absurd (oF e) h
theorem im (f:Nat->Bool):∀ {xs ys:List D},xs.length=ys.length->(∀(j:Nat) x y,xs[j]? = some x->ys[j]? = some y->f j=cE x y)->(List.range xs.length).all f=gv xs ys
 |[],[],_,_=>by simp[gv]
 |x::xs,y::ys,hl,h=>by
  have e:=im (λj=>f (j+1)) (xs:=xs) (ys:=ys) (by simpa using hl) λj a b h1 h2=>h (j+1) a b (by simpa using h1) (by simpa using h2);rw[vD,List.range_succ_eq_map,List.all_cons,List.all_map,gv,←h 0 x y rfl rfl,←e];rfl
 |[],_::_,hl,_=>by simp at hl
 |_::_,[],hl,_=>by simp at hl
section
variable {X:Cx}{ac:List (Addr×Obj)}{σ:St}{H:Hp}{s:Shared}
theorem rP (I:Inv X ac σ H s)(h1:gb X.K H a vs)(h2:fZ X.K H a ws):False:=by
 obtain⟨its,_,⟨o,e,c,_⟩,_⟩:=I.tuple h1;obtain⟨its',_,⟨o',n',e',c',_⟩,_⟩:=I.list h2;rw[e]at e';cases e';rw[c]at c';injection c' with z;exact absurd z (by decide)
theorem rQ (I:Inv X ac σ H s)(e:s.heap.get? a=some o)(d:o.data=.seq its n):(∀b8 ob,H a≠some (.dK b8 ob))/\∀b8,H a≠some (.dT b8):=by
 refine⟨λb8 ob h=>?_,λb8 h=>?_⟩
 ·obtain⟨_,_,_,_,_,o',es,ep,e',_,d',_⟩:=(show bC X.prog X.w H s.heap a (.dK b8 ob)from I.hok a _ h);rw[e]at e';cases e';rw[d]at d';cases d'
 ·obtain⟨_,_,_,_,o',es,ep,e',_,d',_⟩:=(show bC X.prog X.w H s.heap a (.dT b8)from I.hok a _ h);rw[e]at e';cases e';rw[d]at d';cases d'
theorem oG (I:Inv X ac σ H s)(h1:gb X.K H a vs):(∀b8 ob,H a≠some (.dK b8 ob))/\∀b8,H a≠some (.dT b8):=by
 obtain⟨its,_,⟨o,e,c,n,d⟩,_⟩:=I.tuple h1;exact rQ I e d
theorem oH (I:Inv X ac σ H s)(h1:fZ X.K H a vs):(∀b8 ob,H a≠some (.dK b8 ob))/\∀b8,H a≠some (.dT b8):=by
 obtain⟨its,_,p,_⟩:=I.list h1;obtain⟨o,e,c,n,d⟩:=p.isList;exact rQ I e d
theorem rR (I:Inv X ac σ H s):∀(n:Nat){v:V}{d d':D},Is X.K H v d->Is X.K H v d'->aM n d=true->cE d d'=true:=by
 have lists:∀ {p:D->Bool}(ih:∀ {v:V}{d d':D},Is X.K H v d->Is X.K H v d'->p d=true->cE d d'=true) {vs:List V}{ds z8:List D},IsL X.K H vs ds->IsL X.K H vs z8->ds.all p=true->gv ds z8=true:=by
  intro p ih vs;induction vs with
  |nil=>intro ds z8 h h' _;cases h;cases h';simp[gv]
  |cons v vs Lg=>
   intro ds z8 h h' hp;cases h with
   |cons h1 h2=>
    cases h' with
    |cons h3 h4=>
     rw[List.all_cons,vC]at hp;rw[gv,ih h1 h3 hp.1,Lg h2 h4 hp.2];rfl
 intro n;induction n with
 |zero=>
  intro v d d' h h' hp;cases h<;>cases h'<;>first|(simp[aM]at hp;done)|simp[cE]
 |succ n ih=>
  intro v d d' h h' hp;cases h with
  |tup h1 h2=>
   cases h' with
   |tup h3 h4=>
    rw[I.tuple_inj h3 h1]at h4;rw[cE];exact lists ih h2 h4 (by simpa [aM]using hp)
   |lst h3 h4=>exact(rP I h1 h3).elim
   |dk h3 _ _=>exact((oG I h1).1 _ _ h3).elim
   |dt h3 _ _=>exact((oG I h1).2 _ h3).elim
  |lst h1 h2=>
   cases h' with
   |lst h3 h4=>
    rw[I.list_inj h3 h1]at h4;rw[cE];exact lists ih h2 h4 (by simpa [aM]using hp)
   |tup h3 h4=>exact(rP I h3 h1).elim
   |dk h3 _ _=>exact((oH I h1).1 _ _ h3).elim
   |dt h3 _ _=>exact((oH I h1).2 _ h3).elim
  |ty=>simp[aM]at hp
  |dk=>simp[aM]at hp
  |dt=>simp[aM]at hp
  |_=>cases h'<;>simp[cE]
theorem Ai {α:Type}{p:α->Bool}{l:List α}{j:Nat}{x:α}(h:l.all p=true)(e:l[j]? = some x):p x=true:=uR h x (List.mem_of_getElem? e)
theorem oJ {A:Around}{p:D->Bool}(ih:∀ {v1 v2:V}{d1 d2:D}{u1 u2:Value},p d1=true->p d2=true->Is X.K H v1 d1->Is X.K H v2 d2->aI v1 u1->aI v2 u2->SeqAt.EqAt A s u1 u2 (cE d1 d2))
  {vs ws:List V}{ds es:List D}{its lT:List Value}(i1:IsL X.K H vs ds) (i2:IsL X.K H ws es) (r1:aT vs its) (r2:aT ws lT) (p1:ds.all p=true) (p2:es.all p=true):
  ∀j (h1:j<its.toArray.size) (h2:j<lT.toArray.size),SeqAt.EqAt A s its.toArray[j] lT.toArray[j] (cE (ds.getD j .non) (es.getD j .non)):=by
 intro j h1 h2;rw[vG]at h1 h2;have l1:=r1.length;have l2:=r2.length;have l3:=i1.length;have l4:=i2.length;have hv:j<vs.length:=by omega
 have hw:j<ws.length:=by omega
 have hd:j<ds.length:=by omega
 have he:j<es.length:=by omega
 obtain⟨u,e1,q1⟩:=r1.get (i:=j) (x:=vs[j]) (by simp[hv]);obtain⟨u',e2,q2⟩:=r2.get (i:=j) (x:=ws[j]) (by simp[hw]);obtain⟨v,e3,q3⟩:=i1.get (i:=j) (d:=ds[j]) (by simp[hd]);obtain⟨w,e4,q4⟩:=i2.get (i:=j) (d:=es[j]) (by simp[he]);have a1:its.toArray[j]=u:=by have z:=(vV e1).2;simpa using z
 have a2:lT.toArray[j]=u':=by have z:=(vV e2).2;simpa using z
 have a3:vs[j]=v:=by simpa [hv]using e3
 have a4:ws[j]=w:=by simpa [hw]using e4
 have a5:ds.getD j .non=ds[j]:=by simp[List.getD,hd]
 have a6:es.getD j .non=es[j]:=by simp[List.getD,he]
 rw[a1,a2,a5,a6];exact ih (Ai p1 (j:=j) (by simp[hd])) (Ai p2 (j:=j) (by simp[he])) (a3 ▸ q3) (a4 ▸ q4) q1 q2
theorem rS {xs ys:List D}(j:Nat)(x y:D)(h1:xs[j]? = some x)(h2:ys[j]? = some y):cE (xs.getD j .non) (ys.getD j .non)=cE x y:=by
 simp[List.getD,h1,h2]
abbrev GF (A:Around)(s:Shared)(u1 u2:Value)(b:Bool):Prop:=SeqAt.RcAt A s u1 u2 b/\SeqAt.EqAt A s u1 u2 b/\SeqAt.RcNeAt A s u1 u2 (!b)
theorem rT {a1 a2:Addr}(rc:SeqAt.RcAt A s (.ref a1) (.ref a2) b)(rn:SeqAt.RcNeAt A s (.ref a1) (.ref a2) (!b))(h:a1=a2->b=true):GF A s (.ref a1) (.ref a2) b:=by
 refine⟨rc,?_,rn⟩;by_cases ha:a1=a2
 ·subst ha;rw[h rfl];exact SeqAt.EqAt.same _
 ·exact SeqAt.EqAt.of_refs ha rc
theorem oK (p1:aM 0 d1=true)(p2:aM 0 d2=true)(i1:Is X.K H v1 d1)(i2:Is X.K H v2 d2)(r1:aI v1 u1)(r2:aI v2 u2):GF A s u1 u2 (cE d1 d2):=by
 cases i1 with
 |non=>
  cases r1
  cases i2 with
  |non=>cases r2;rw[cE];exact⟨.none_none,.same _,.none_none⟩
  |bl b=>cases r2;simp only[cE];exact⟨.none_bool _,.none_bool _,.none_bool _⟩
  |int b=>obtain⟨t',rfl⟩:=r2;simp only[cE];exact⟨.none_int _ _,.none_int _ _,.none_int _ _⟩
  |str b=>obtain⟨t',rfl⟩:=r2;simp only[cE];exact⟨.none_str _ _,.none_str _ _,.none_str _ _⟩
  |_=>simp at p2
 |bl a=>
  cases r1
  cases i2 with
  |non=>cases r2;simp only[cE];exact⟨.bool_none _,.bool_none _,.bool_none _⟩
  |bl b=>cases r2;rw[cE];exact⟨.bool_bool _ _,.bool_bool _ _,.bool_bool _ _⟩
  |int b=>obtain⟨t',rfl⟩:=r2;rw[cE,←Bool.beq_eq_decide_eq];exact⟨.bool_int _ _ _,.bool_int _ _ _,.bool_int _ _ _⟩
  |str b=>obtain⟨t',rfl⟩:=r2;simp only[cE];exact⟨.bool_str _ _ _,.bool_str _ _ _,.bool_str _ _ _⟩
  |_=>simp at p2
 |int a=>
  obtain⟨t,rfl⟩:=r1;cases i2 with
  |non=>cases r2;simp only[cE];exact⟨.int_none _ _,.int_none _ _,.int_none _ _⟩
  |bl b=>cases r2;rw[cE,←Bool.beq_eq_decide_eq];exact⟨.int_bool _ _ _,.int_bool _ _ _,.int_bool _ _ _⟩
  |int b=>obtain⟨t',rfl⟩:=r2;rw[cE,←Bool.beq_eq_decide_eq];exact⟨.int_int _ _ _ _,.int_int _ _ _ _,.int_int _ _ _ _⟩
  |str b=>obtain⟨t',rfl⟩:=r2;simp only[cE];exact⟨.int_str _ _ _ _,.int_str _ _ _ _,.int_str _ _ _ _⟩
  |_=>simp at p2
 |str a=>
  obtain⟨t,rfl⟩:=r1;cases i2 with
  |non=>cases r2;simp only[cE];exact⟨.str_none _ _,.str_none _ _,.str_none _ _⟩
  |bl b=>cases r2;simp only[cE];exact⟨.str_bool _ _ _,.str_bool _ _ _,.str_bool _ _ _⟩
  |int b=>obtain⟨t',rfl⟩:=r2;simp only[cE];exact⟨.str_int _ _ _ _,.str_int _ _ _ _,.str_int _ _ _ _⟩
  |str b=>obtain⟨t',rfl⟩:=r2;rw[cE,←Bool.beq_eq_decide_eq];exact⟨.str_str _ _ _ _,.str_str _ _ _ _,.str_str _ _ _ _⟩
  |_=>simp at p2
 |_=>simp at p1
theorem Aj (I:Inv X ac σ H s):∀(n:Nat){A:Around}{v1 v2:V}{d1 d2:D}{u1 u2:Value},A.units+n<cLine->aM n d1=true->aM n d2=true->Is X.K H v1 d1->Is X.K H v2 d2->aI v1 u1->aI v2 u2->GF A s u1 u2 (cE d1 d2):=by
 intro n;induction n with
 |zero=>exact λ_ p1 p2 i1 i2 r1 r2=>oK p1 p2 i1 i2 r1 r2
 |succ n ih=>
  intro A v1 v2 d1 d2 u1 u2 hu p1 p2 i1 i2 r1 r2;have dh:A.units<cLine:=by omega
  have EE:∀ {v1 v2:V}{d1 d2:D}{u1 u2:Value},aM n d1=true->aM n d2=true->Is X.K H v1 d1->Is X.K H v2 d2->aI v1 u1->aI v2 u2->SeqAt.EqAt A.in1 s u1 u2 (cE d1 d2):=λp1 p2 i1 i2 r1 r2=>(ih (A:=A.in1) (by show A.units+1+n<cLine;omega) p1 p2 i1 i2 r1 r2).2.1;by_cases f2:aM 0 d2=true
  ·by_cases f1:aM 0 d1=true
   ·exact oK f1 f2 i1 i2 r1 r2
   ·cases i1 with
    |tup h1 k1=>
     cases r1
     obtain⟨its,zF,t1,z1⟩:=I.tuple h1;cases i2 with
     |non=>cases r2;simp only[cE];exact⟨.tuple_none t1 dh,.tuple_none t1 dh,.tuple_none t1 dh⟩
     |bl=>cases r2;simp only[cE];exact⟨.tuple_bool _ t1 dh,.tuple_bool _ t1 dh,.tuple_bool _ t1 dh⟩
     |int=>obtain⟨t,rfl⟩:=r2;simp only[cE];exact⟨.tuple_int _ _ t1 dh,.tuple_int _ _ t1 dh,.tuple_int _ _ t1 dh⟩
     |str=>obtain⟨t,rfl⟩:=r2;simp only[cE];exact⟨.tuple_str _ _ t1 dh,.tuple_str _ _ t1 dh,.tuple_str _ _ t1 dh⟩
     |_=>simp at f2
    |lst h1 k1=>
     cases r1
     obtain⟨its,zF,t1,z1⟩:=I.list h1;replace t1:=t1.isList;cases i2 with
     |non=>cases r2;simp only[cE];exact⟨.list_none t1 dh,.list_none t1 dh,.list_none t1 dh⟩
     |bl=>cases r2;simp only[cE];exact⟨.list_bool _ t1 dh,.list_bool _ t1 dh,.list_bool _ t1 dh⟩
     |int=>obtain⟨t,rfl⟩:=r2;simp only[cE];exact⟨.list_int _ _ t1 dh,.list_int _ _ t1 dh,.list_int _ _ t1 dh⟩
     |str=>obtain⟨t,rfl⟩:=r2;simp only[cE];exact⟨.list_str _ _ t1 dh,.list_str _ _ t1 dh,.list_str _ _ t1 dh⟩
     |_=>simp at f2
    |_=>simp at f1 p1
  ·cases i2 with
   |tup h2 k2=>
    cases r2
    obtain⟨lT,EM,t2,z2⟩:=I.tuple h2;cases i1 with
    |tup h1 k1=>
     cases r1
     obtain⟨its,zF,t1,z1⟩:=I.tuple h1;rename_i a2 ws es a1 vs ds;have he:=oJ (A:=A.in1) (p:=aM n) EE k1 k2 zF EM (by simpa using p1) (by simpa using p2);have Hz:((List.range (min its.toArray.size lT.toArray.size)).all (λj=>cE (ds.getD j .non) (es.getD j .non)) && its.toArray.size == lT.toArray.size)=cE (.tup ds) (.tup es):=by
      rw[cE,vG,vG,←zF.length,←EM.length,k1.length,k2.length];by_cases hl:ds.length=es.length
      ·rw[←hl,Nat.min_self,beq_self_eq_true,Bool.and_true];exact im _ hl λj x y e1 e2=>rS j x y e1 e2
      ·rw[rO hl,beq_eq_false_iff_ne.mpr hl,Bool.and_false]
     have rc:=SeqAt.RcAt.tuples t1 t2 dh he;have rn:=SeqAt.RcNeAt.tuples t1 t2 dh he;rw[Hz]at rc rn;exact rT rc rn λe=>by subst e;exact rR I (n+1) (.tup h1 k1) (.tup h2 k2) p1
    |lst h1 k1=>cases r1;obtain⟨its,zF,t1,z1⟩:=I.list h1;simp only[cE];exact⟨.list_tuple t1.isList t2 dh,.list_tuple t1.isList t2 dh,.list_tuple t1.isList t2 dh⟩
    |non=>cases r1;simp only[cE];exact⟨.none_tuple t2 dh,.none_tuple t2 dh,.none_tuple t2 dh⟩
    |bl=>cases r1;simp only[cE];exact⟨.bool_tuple _ t2 dh,.bool_tuple _ t2 dh,.bool_tuple _ t2 dh⟩
    |int=>obtain⟨t,rfl⟩:=r1;simp only[cE];exact⟨.int_tuple _ _ t2 dh,.int_tuple _ _ t2 dh,.int_tuple _ _ t2 dh⟩
    |str=>obtain⟨t,rfl⟩:=r1;simp only[cE];exact⟨.str_tuple _ _ t2 dh,.str_tuple _ _ t2 dh,.str_tuple _ _ t2 dh⟩
    |_=>simp at p1
   |lst h2 k2=>
    cases r2
    obtain⟨lT,EM,t2,z2⟩:=I.list h2;replace t2:=t2.isList;cases i1 with
    |lst h1 k1=>
     cases r1
     obtain⟨its,zF,t1,z1⟩:=I.list h1;replace t1:=t1.isList;rename_i a2 ws es a1 vs ds;have he:=oJ (A:=A.in1) (p:=aM n) EE k1 k2 zF EM (by simpa using p1) (by simpa using p2);have both:SeqAt.RcAt A s (.ref a1) (.ref a2) (cE (.lst ds) (.lst es))/\SeqAt.RcNeAt A s (.ref a1) (.ref a2) (!cE (.lst ds) (.lst es)):=by
      have hz:its.toArray.size=ds.length/\lT.toArray.size=es.length:=by rw[vG,vG,←zF.length,←EM.length,k1.length,k2.length];exact⟨rfl,rfl⟩
      by_cases hl:ds.length=es.length
      ·have Hz:(List.range its.toArray.size).all (λj=>cE (ds.getD j .non) (es.getD j .non))=cE (.lst ds) (.lst es):=by
        rw[cE,hz.1];exact im _ hl λj x y e1 e2=>rS j x y e1 e2
       have hs:=(hz.1.trans hl).trans hz.2.symm;have rc:=SeqAt.RcAt.lists t1 t2 hs dh he;have rn:=SeqAt.RcNeAt.lists t1 t2 hs dh he;rw[Hz]at rc rn;exact⟨rc,rn⟩
      ·have hs:(its.toArray.size != lT.toArray.size)=true:=by rw[hz.1,hz.2];exact bne_iff_ne.mpr hl
       rw[cE,rO hl];exact⟨.lists_lengths t1 t2 hs dh,.lists_lengths t1 t2 hs dh⟩
     exact rT both.1 both.2 λe=>by subst e;exact rR I (n+1) (.lst h1 k1) (.lst h2 k2) p1
    |tup h1 k1=>cases r1;obtain⟨its,zF,t1,z1⟩:=I.tuple h1;simp only[cE];exact⟨.tuple_list t1 t2 dh,.tuple_list t1 t2 dh,.tuple_list t1 t2 dh⟩
    |non=>cases r1;simp only[cE];exact⟨.none_list t2 dh,.none_list t2 dh,.none_list t2 dh⟩
    |bl=>cases r1;simp only[cE];exact⟨.bool_list _ t2 dh,.bool_list _ t2 dh,.bool_list _ t2 dh⟩
    |int=>obtain⟨t,rfl⟩:=r1;simp only[cE];exact⟨.int_list _ _ t2 dh,.int_list _ _ t2 dh,.int_list _ _ t2 dh⟩
    |str=>obtain⟨t,rfl⟩:=r1;simp only[cE];exact⟨.str_list _ _ t2 dh,.str_list _ _ t2 dh,.str_list _ _ t2 dh⟩
    |_=>simp at p1
   |_=>simp at f2 p2
@[simp] def df:D->D->OB:=λx y=>if aM 40 x=true/\aM 40 y=true then some (.bl (cE x y),false)else none
@[simp] def yB:D->D->OB:=λx y=>if aM 40 x=true/\aM 40 y=true then some (.bl (!cE x y),false)else none
theorem cU (hu:X.A.units+40<cLine):cF X (compareOp .Eq) (rD X.K df):=by
 intro ac s σ H x y v u Q I rx ry q;obtain⟨B,dx,dy,d,b,sB,ix,iy,e,q⟩:=q;unfold df at e;split at e
 ·rename_i hp;cases e
  exact(Aj I 40 hu hp.1 hp.2 (ix.mono sB) (iy.mono sB) rx ry).1 _ _ _ _ ⟨.bl _,H,I,rfl,q.one sB (.bl _)⟩
 ·cases e
theorem vn (hu:X.A.units+40<cLine):cF X (compareOp .NotEq) (rD X.K yB):=by
 intro ac s σ H x y v u Q I rx ry q;obtain⟨B,dx,dy,d,b,sB,ix,iy,e,q⟩:=q;unfold yB at e;split at e
 ·rename_i hp;cases e
  exact(Aj I 40 hu hp.1 hp.2 (ix.mono sB) (iy.mono sB) rx ry).2.2 _ _ _ _ ⟨.bl _,H,I,rfl,q.one sB (.bl _)⟩
 ·cases e
end
section
variable {X:Cx}{a b e:Expr}{pos:Pos}
theorem rU {K:Frag}{H:Hp}{vs:List V}{ds:List D}{i:Int}{d:D}(h:IsL K H vs ds)(e:md ds i=some d):∃v,md vs i=some v/\Is K H v d:=by
 unfold md at e ⊢;rw[h.length];cases q:Ac ds.length i with
 |none=>rw[q]at e;cases e
 |some j=>rw[q]at e;exact h.get e
@[simp] def cI:D->D->OB
 |.lst ds,.int i=>(md ds i).map λd=>(d,false)
 |.tup ds,.int i=>(md ds i).map λd=>(d,false)
 |.str z,.int i=>if z.length<=sizeLine then (md z.cps.toList i).map λc=>(.str ⟨#[c]⟩,false)else none
 |_,_=>none
theorem GG:uK X (rD X.K cI):=by
 intro value slice ac s σ H x y v u Q I rx ry q hs;obtain⟨B,dx,dy,d,b,sB,ix,iy,e,q⟩:=q;cases ix<;>try (cases e;done)
 all_goals (cases iy<;>try (cases e;done))
 ·simp only[cI]at e;split at e
  ·rename_i hz;obtain⟨c,e1,e2⟩:=oY e;cases e2
   exact uO value slice ac s σ H _ _ v u Q I rx ry ⟨_,_,c,rfl,rfl,hz,e1,q.one sB (.str _)⟩ hs
  ·cases e
 ·rename_i h hl i;simp only[cI]at e;obtain⟨c,e1,e2⟩:=oY e;cases e2
  obtain⟨w,h1,h2⟩:=rU hl e1;exact uM value slice ac s σ H _ _ v u Q I rx ry ⟨_,_,_,w,rfl,rfl,bg sB h,h1,q.one sB h2⟩ hs
 ·rename_i h hl i;simp only[cI]at e;obtain⟨c,e1,e2⟩:=oY e;cases e2
  obtain⟨w,h1,h2⟩:=rU hl e1;exact yn value slice ac s σ H _ _ v u Q I rx ry ⟨_,_,_,w,rfl,rfl,sB.seq h,h1,q.one sB h2⟩ hs
theorem cJ (ha:JE X a fa)(hb:JE X b fb)(hs:jW b:=by intro _ _;rfl):JE X (.Subscript a b pos) (f2 cI fa fb):=PE.to (uL GG ha hb hs) λ_ _ _ h=>yu h
abbrev FO:=Env->Option (Option Int)
def Km (K:Frag)(f:FO):TO:=λσ H Q=>∃(B:Hp)(ρ:Env)(o:Option Int),aO B H/\dD K B σ ρ/\f ρ=some o/\∀H',aO H H'->Q o H'
abbrev JO (X:Cx)(e:Option Expr)(f:FO):Prop:=PO X e (Km X.K f)
@[simp] noncomputable def bP:FO:=λ_=>some none
@[simp] noncomputable def bJ (f:FE):FO:=λρ=>match f ρ with|some (.int i,_)=>some (some i)|_=>none
theorem cc:JO X none bP:=λac s σ H Q I h=>yh ac s σ H Q I (by
 obtain⟨B,ρ,o,sB,r,e,q⟩:=h;cases e
 exact q H (.refl H))
theorem ce (h:JE X e f):JO X (some e) (bJ f):=λac s σ H Q I q=>yi h ac s σ H Q I (by
 obtain⟨B,ρ,o,sB,r,e,q⟩:=q;unfold bJ at e;split at e
 ·rename_i i b' ef;cases e
  refine⟨B,ρ,_,_,sB,r,ef,λv H1 N1 x1 i1 _=>?_⟩;cases i1
  exact⟨i,rfl,q H1 x1.hh⟩
 ·cases e)
def jP (ds:List D)(lo hi:Option Int):List D:=(ds.drop (HT.c6 ds.length 0 lo)).take (HT.c6 ds.length ds.length hi - HT.c6 ds.length 0 lo)
theorem nv {K:Frag}{H:Hp}{vs:List V}{ds:List D}{lo hi:Option Int}(h:IsL K H vs ds):IsL K H (lG vs lo hi) (jP ds lo hi):=by
 unfold lG jP;rw[h.length];exact(h.drop _).take _
theorem bM.to (h:bM X f r)(k:∀xs H Q,r' xs H Q->r xs H Q):bM X f r':=λac s σ H xs us Q I rs q=>h ac s σ H xs us Q I rs (k xs H Q q)
variable {es:List Expr}{x:Str}{p:Pos}{id T:String}
theorem ax (hc:bM X (.builtin id) (yt X.K f))(hm:X.mg x=none)(hv:bootBuiltins x=some (.builtin id))(ha:JA X (e::es) fa)(hg:Gl X x:=by rfl)(hn:x ≠ "__name__":=by decide)(lx:(x == ("__debug__" : Str))=false:=by decide)
  (he:starEach (e::es) X.env=(false,eval e X.env)::starEach es X.env:=by rfl) (hpl:(backTo pos (starEach es X.env)).any (·.1)=false:=by rfl):JE X (.Call (.Name x p) (e::es) [] pos) (fA f fa):=PE.to (fJ hc hg hm hv ha hn lx he hpl) λ_ _ _ h=>yv h
theorem gT (hc:bM X (.type T) (yt X.K f))(hm:X.mg x=none)(hv:bootBuiltins x=some (.type T))(ha:JA X (e::es) fa)(hg:Gl X x:=by rfl)(hn:x ≠ "__name__":=by decide)(lx:(x == ("__debug__" : Str))=false:=by decide)
  (he:starEach (e::es) X.env=(false,eval e X.env)::starEach es X.env:=by rfl) (hpl:(backTo pos (starEach es X.env)).any (·.1)=false:=by rfl):JE X (.Call (.Name x p) (e::es) [] pos) (fA f fa):=PE.to (jj hc hg hm hv ha hn lx he hpl) λ_ _ _ h=>yv h
@[simp] noncomputable def bZ:List D->OB
 |[.lst ds]=>some (.int ds.length,false)
 |[.tup ds]=>some (.int ds.length,false)
 |[.str z]=>if z.length<=sizeLine then some (.int z.length,false)else none
 |_=>none
theorem da:bM X (.builtin "len") (yt X.K bZ):=by
 refine bM.to (bM.or mU mV) λxs H Q q=>?_;obtain⟨B,ds,d,b,sB,i,e,q⟩:=q;cases i with
 |nil=>simp[bZ]at e
 |cons i1 i2=>
  cases i2 with
  |cons _ _=>cases i1<;>simp[bZ]at e
  |nil=>
   cases i1<;>try (simp[bZ]at e;done)
   ·simp only[bZ]at e;split at e
    ·rename_i hz;cases e
     exact .inr ⟨_,rfl,hz,q.one sB (.int _)⟩
    ·cases e
   ·rename_i h hl;simp only[bZ]at e;cases e
    refine .inl ⟨_,_,rfl,.inr (bg sB h),?_⟩;rw[hl.length];exact q.one sB (.int _)
   ·rename_i h hl;simp only[bZ]at e;cases e
    refine .inl ⟨_,_,rfl,.inl (sB.seq h),?_⟩;rw[hl.length];exact q.one sB (.int _)
theorem dm (hm:X.mg x=none)(hv:bootBuiltins x=some (.type n))(hg:Gl X x:=by rfl)(hn:x ≠ "__name__":=by decide)(hd:(x == ("__debug__" : Str))=false:=by decide):JE X (.Name x pos) (fC (.ty n)) :=
 PE.to (jV hg hm hv (v:=.ty n) rfl hn hd) λ_ _ _ h=>tF (λ_=>.ty n) h
end
theorem Bz (hr:cD k A):A.units+40<cLine:=by have:=hr.un;omega
section
variable {X:Cx}{a b e:Expr}{pos:Pos}{x:Str}{p:Pos}
theorem c7 (h:∃u v,X.mg x=some u/\aI v u/\∀B,Is X.K B v d)(hg:Gl X x:=by rfl)(hd:(x == ("__debug__" : Str))=false:=by decide):JE X (.Name x pos) (fC d):=by
 obtain⟨u,v,hm,r,i⟩:=h;exact y6 hg hm r i hd
@[simp] noncomputable def rV:D->D->OB
 |.int i,.int j=>some (.int (i+j),false)
 |.str i,.str j=>if i.length+j.length<=sizeLine then some (.str (i++j),false)else none
 |_,_=>none
theorem yC:cF X (binaryOp .Add) (rD X.K rV):=by
 refine gB (r:=rD X.K (xJ Bv y9)) (ky DE Bw) λx y H Q q=>?_;obtain⟨B,dx,dy,d,b,sB,ix,iy,e,q⟩:=q;refine⟨B,dx,dy,d,b,sB,ix,iy,?_,q⟩;cases dx<;>try (cases e;done)
 all_goals (cases dy<;>try (cases e;done))
 all_goals (simp[rV]at e;simp[xJ,Bv,y9,q9,C7,e])
@[simp] def qB:D->D->OB:=DD
theorem kA:cF X (binaryOp .Mult) (rD X.K qB):=DF
@[simp] def DJ:D->D->OB:=IF
theorem rW:cF X (compareOp .Lt) (rD X.K DJ):=GB
@[simp] noncomputable def mm:D->D->OB
 |.int i,.int j=>some (.bl (decide (i<=j)),false)
 |.str i,.str j=>some (.bl (!decide (j.cps.toList<i.cps.toList)),false)
 |_,_=>none
theorem gY:cF X (compareOp .LtE) (rD X.K mm):=by
 refine gB (r:=rD X.K (xJ GA F8)) (ky GC DH) λx y H Q q=>?_;obtain⟨B,dx,dy,d,b,sB,ix,iy,e,q⟩:=q;refine⟨B,dx,dy,d,b,sB,ix,iy,?_,q⟩;cases dx<;>try (cases e;done)
 all_goals (cases dy<;>try (cases e;done))
 all_goals (simp[mm]at e;simp[xJ,GA,F8,q9,C7,e])
@[simp] noncomputable def ny:D->D->Option Bool
 |.non,.non=>some true
 |_,.non=>some false
 |.bl a,.bl b=>some (a == b)
 |_,.bl _=>some false
 |_,_=>none
@[simp] def F9:D->D->OB:=λx y=>(ny x y).map λb=>(.bl b,false)
@[simp] def nA:D->D->OB:=λx y=>(ny x y).map λb=>(.bl (!b),false)
theorem rX {K:Frag}{B:Hp}{x y:V}{v u:Value}{dx dy:D}{k:Bool}(ix:Is K B x dx)(iy:Is K B y dy)(rx:aI x v)(ry:aI y u)(e:ny dx dy=some k):plainIs v u=true/\(v == u)=k:=by
 cases iy<;>(first|(cases dx<;>simp[ny]at e;done)|skip)
 all_goals (cases ix)
 all_goals (first|(obtain⟨t,rfl⟩:=rx)|cases rx)
 all_goals (cases ry)
 all_goals (simp only[ny,Option.some.injEq]at e;subst e)
 all_goals (first|exact⟨rfl,rfl⟩|skip)
 all_goals (rename_i c d;cases c<;>cases d<;>exact⟨rfl,rfl⟩)
theorem B1:cF X (compareOp .Is) (rD X.K F9):=by
 intro ac s σ H x y v u Q I rx ry q;obtain⟨B,dx,dy,d,b,sB,ix,iy,e,q⟩:=q;obtain⟨k,ek,e⟩:=oY e;cases e
 obtain⟨h1,h2⟩:=rX ix iy rx ry ek;refine wpAny_is_plain h1 ⟨.bl k,H,I,by rw[h2];rfl,q.one sB (.bl _)⟩
theorem yD:cF X (compareOp .IsNot) (rD X.K nA):=by
 intro ac s σ H x y v u Q I rx ry q;obtain⟨B,dx,dy,d,b,sB,ix,iy,e,q⟩:=q;obtain⟨k,ek,e⟩:=oY e;cases e
 obtain⟨h1,h2⟩:=rX ix iy rx ry ek;refine wpAny_isNot_plain h1 ⟨.bl (!k),H,I,by rw[h2];rfl,q.one sB (.bl _)⟩
@[simp] noncomputable def eJ:D->Bool
 |.non=>true|.bl _=>true|.int _=>true|.str _=>true
 |_=>false
noncomputable def Ak (x:D)(ds:List D):Bool:=ds.any λy=>cE y x
@[simp] noncomputable def gm:D->Option (List D)
 |.lst ds=>some ds
 |.tup ds=>some ds
 |_=>none
@[simp] def B3:D->D->OB:=λx y=>(gm y).bind λds=>if eJ x=true/\ds.all eJ=true then some (.bl (Ak x ds),false)else none
theorem qC {K:Frag}{B:Hp}{v:V}{d:D}(i:Is K B v d)(h:eJ d=true):gX v=true:=by
 cases i<;>first|rfl|(simp[eJ]at h)
theorem GH {K:Frag}{B:Hp}{v w:V}{d e:D}(i:Is K B v d)(j:Is K B w e)(h:eJ d=true)(h':eJ e=true):xI v w=cE d e:=by
 cases i<;>(first|(simp[eJ]at h;done)|skip)
 all_goals (cases j<;>(first|(simp[eJ]at h';done)|skip))
 all_goals (simp only[xI,cE,Bool.beq_eq_decide_eq])
theorem vo {K:Frag}{B:Hp}:∀ {vs:List V}{ds:List D},IsL K B vs ds->ds.all eJ=true->vs.all gX=true
 |_,_,.nil,_=>rfl
 |_,_,.cons i t,h=>by
  rw[List.all_cons,vC]at h;rw[List.all_cons,qC i h.1,vo t h.2];rfl
theorem B4 {K:Frag}{B:Hp}{v:V}{d:D}(j:Is K B v d)(hd:eJ d=true):∀ {vs:List V}{ds:List D},IsL K B vs ds->ds.all eJ=true->F6 v vs=Ak d ds
 |_,_,.nil,_=>rfl
 |_,_,.cons i t,h=>by
  rw[List.all_cons,vC]at h;have e:=B4 j hd t h.2;unfold F6 Ak at *;rw[List.any_cons,List.any_cons,e,GH i j h.1 hd]
theorem vp:cF X (compareOp .In) (rD X.K B3):=by
 refine gB tt λx y H Q q=>?_;obtain⟨B,dx,dy,d,b,sB,ix,iy,e,q⟩:=q;obtain⟨ds,es,e⟩:=oX e;split at e
 ·rename_i hf;cases e
  cases iy<;>simp only[gm]at es<;>try (cases es;done)
  ·rename_i h hl;cases es
   exact⟨_,_,rfl,.inr (bg sB h),qC ix hf.1,vo hl hf.2,by rw[if_neg (by decide),B4 ix hf.1 hl hf.2];exact q.one sB (.bl _)⟩
  ·rename_i h hl;cases es
   exact⟨_,_,rfl,.inl (sB.seq h),qC ix hf.1,vo hl hf.2,by rw[if_neg (by decide),B4 ix hf.1 hl hf.2];exact q.one sB (.bl _)⟩
 ·cases e
theorem cO:bootBuiltins "len" = some (.builtin "len"):=PySem.boot_len
theorem aJ:bootBuiltins "isinstance" = some (.builtin "isinstance"):=by decide +kernel
theorem DK:bootBuiltins "min" = some (.builtin "min"):=by decide +kernel
theorem oM:bootBuiltins "all" = some (.builtin "all"):=by decide +kernel
theorem DM:bootBuiltins "int" = some (.type "int"):=by decide +kernel
theorem B5:bootBuiltins "bool" = some (.type "bool"):=by decide +kernel
theorem vq:bootBuiltins "str" = some (.type "str"):=by decide +kernel
theorem io:bootBuiltins "list" = some (.type "list"):=by decide +kernel
theorem cP:bootBuiltins "tuple" = some (.type "tuple"):=by decide +kernel
@[simp] noncomputable def Kn:List D->OB
 |[.int i,.int j]=>some (.int (if j > i then j else i),false)
 |_=>none
@[simp] noncomputable def yE:List D->OB
 |[.int i,.int j]=>some (.int (if j<i then j else i),false)
 |_=>none
theorem vt {K:Frag}{B:Hp}{xs:List V}{i j:Int}(h:IsL K B xs [.int i,.int j]):xs=[.int i,.int j]:=by
 cases h with
 |cons h1 h2=>cases h1;cases h2 with|cons h3 h4=>cases h3;cases h4;rfl
theorem DN (hc:X.calm=true:=by rfl):bM X (.builtin "min") (yt X.K yE):=by
 refine bM.to (tf hc) λxs H Q q=>?_;obtain⟨B,ds,d,b,sB,i,e,q⟩:=q;match ds,e with
 |[.int i',.int j'],e=>simp only[yE]at e;cases e;exact⟨i',j',vt i,q.one sB (.int _)⟩
@[simp] noncomputable def eK:D->String
 |.non=>"NoneType" | .bl _=>"bool" | .int _=>"int" | .str _=>"str" | .ty _=>"type" | .tup _=>"tuple" | .lst _=>"list" | .dk _ _=>"dict" | .dt _ _=>"dict"
@[simp] noncomputable def yF:D->Bool
 |.ty _=>true
 |_=>false
@[simp] noncomputable def rY (t n:String):OB :=
 if n = "int" then some (.bl (t == "int" || t == "bool"),false)else if n = "bool" then some (.bl (t == "bool"),false)else if n = "str" then some (.bl (t == "str"),false)
 else if n = "list" then some (.bl (t == "list"),false)else if n = "tuple" then some (.bl (t == "tuple"),false)else none
@[simp] def aC:List D->OB
 |[d,.ty n]=>if yF d=true then none else rY (eK d) n
 |_=>none
theorem yG {ac:List (Addr×Obj)}{σ:St}{H:Hp}{s:Shared}{A:Around}{E:Value->Shared->Prop}{Q:Value->Shared->Prop}{c:Value}{b:Bool}{v:V}{d:D}{u:Value}(I:Inv X ac σ H s)(i:Is X.K H v d)(hd:∀n,d≠.ty n)(rx:aI v u)(e:PySem.W.kitOne X.K (.type (eK d)) c=some b)(h:∀tk,Q (.bool b) { s with toks:=tk }):
  wpAny (model X.prog X.w) A (call (.builtin "isinstance") [u,c]) Q E s:=by
 cases i with
 |non=>exact dz I rx .non e h
 |bl y=>exact dz I rx (.bl y) e h
 |int y=>exact dz I rx (.int y) e h
 |str y=>exact dz I rx (.str y) e h
 |ty n=>exact absurd rfl (hd n)
 |dk h1 _ _=>exact dz I rx (.dK h1) e h
 |dt h1 _ _=>exact dz I rx (.dT h1) e h
 |tup ht _=>
  cases rx
  obtain⟨its,_,⟨o,h1,h2,_⟩,_⟩:=I.tuple ht;exact kia_one PySem.W.kitx_tuple I.kIn ⟨o,h1,h2⟩ e (λz=>nomatch z) h
 |lst hl _=>
  cases rx
  obtain⟨its,_,⟨o,n,h1,h2,_⟩,_⟩:=I.list hl;exact kia_one PySem.W.kitx_list I.kIn ⟨o,h1,h2⟩ e (λz=>nomatch z) h
theorem nB (K:Frag)(d:D)(hd:∀n,d≠.ty n):
  PySem.W.kitOne K (.type (eK d)) (.type "int")=some (eK d == "int" || eK d == "bool")/\PySem.W.kitOne K (.type (eK d)) (.type "bool")=some (eK d == "bool")/\PySem.W.kitOne K (.type (eK d)) (.type "str")=some (eK d == "str") /\
   PySem.W.kitOne K (.type (eK d)) (.type "list")=some (eK d == "list")/\PySem.W.kitOne K (.type (eK d)) (.type "tuple")=some (eK d == "tuple"):=by
 cases d<;>(first|exact absurd rfl (hd _)|skip)
 all_goals (simp only[eK];refine⟨?_,?_,?_,?_,?_⟩<;>kernel_rfl)
theorem aQ:bM X (.builtin "isinstance") (yt X.K aC):=by
 intro ac s σ H xs us Q I rs q;obtain⟨B,ds,d,b,sB,i,e,q⟩:=q;cases i with
 |nil=>cases e
 |cons i1 i=>cases i with
 |nil=>cases e
 |cons i2 i=>
  cases i2<;>try (cases e;done)
  cases i<;>try (cases e;done)
  rename_i dx n;obtain⟨u1,u2,rfl,r1,r2⟩:=uG rs;cases r2
  simp only[aC]at e;split at e
  ·cases e
  ·rename_i ht;have hd:∀n,dx≠.ty n:=λn z=>by subst z;exact ht rfl
   obtain⟨k1,k2,k3,k4,k5⟩:=nB X.K dx hd;have g0:∀ {k:Bool},PySem.W.kitOne X.K (.type (eK dx)) (.type n)=some k->Fin X.K B H (.bl k) false Q->wq X (call (.builtin "isinstance") [u1,.type n]) (EP X ac σ Q) X.xe s:=λ{k} hk q=>
    yG I (i1.mono sB) hd r1 hk λtk=>⟨.bl k,H,I.tok tk,rfl,q.one sB (.bl k)⟩
   unfold rY at e;split at e
   ·rename_i z;subst z;cases e;exact g0 k1 q
   split at e
   ·rename_i z;subst z;cases e;exact g0 k2 q
   split at e
   ·rename_i z;subst z;cases e;exact g0 k3 q
   split at e
   ·rename_i z;subst z;cases e;exact g0 k4 q
   split at e
   ·rename_i z;subst z;cases e;exact g0 k5 q
   ·cases e
@[simp] def vv (f:FE):FA:=λρ=>(f ρ).bind λx=>gm x.1
theorem rZ (h:JE X e f):JI X tg e (vv f):=by
 intro ac s σ H R I q;obtain⟨B,ρ,ds,sB,r,e',q⟩:=q;obtain⟨x,ex,es⟩:=oX e';obtain⟨xd,xb⟩:=x;cases xd<;>simp only[gm]at es<;>try (cases es;done)
 ·cases es
  refine AU h ac s σ H R I ⟨B,ρ,_,_,sB,r,ex,λv H1 N1 x1 i1 _=>?_⟩;cases i1 with
  |@tup a vs _ ht hl=>
   refine⟨a,rfl,⟨vs,bg x1.nh ht⟩,q _ H1 N1 x1 λi H2 s2=>⟨λd ed=>?_,λbS=>⟨vs,bg s2 ht,by rw[hl.length];exact bS⟩⟩⟩;obtain⟨v,ev,iv⟩:=hl.get ed;refine⟨⟨vs,v,bg s2 ht,ev⟩,λy H3 hy=>?_⟩;obtain⟨rfl,hy⟩:=hy;have:=hy vs (bg s2 ht);rw[ev]at this;cases this;exact⟨N1,.refl s2,iv⟩
 ·cases es
  refine xW h ac s σ H R I ⟨B,ρ,_,_,sB,r,ex,λv H1 N1 x1 i1 _=>?_⟩;cases i1 with
  |@lst a vs _ ht hl=>
   refine⟨a,rfl,⟨vs,x1.nh.seq ht⟩,q _ H1 N1 x1 λi H2 s2=>⟨λd ed=>?_,λbS=>⟨vs,s2.seq ht,by rw[hl.length];exact bS⟩⟩⟩;obtain⟨v,ev,iv⟩:=hl.get ed;refine⟨⟨vs,v,s2.seq ht,ev⟩,λy H3 hy=>?_⟩;obtain⟨rfl,hy⟩:=hy;have:=hy vs (s2.seq ht);rw[ev]at this;cases this;exact⟨N1,.refl s2,iv⟩
noncomputable def bA (lo:Int)(n:Nat):List D:=(List.range n).map λ(k:Nat)=>.int (lo+(k:Int))
theorem oN {K:Frag}{B:Hp}(lo:Int)(n:Nat):lJ K (Dm lo n) B (bA lo n):=by
 intro i H s;unfold bA;refine⟨λd ed=>?_,λhl=>by rw[vH,List.length_range]at hl;exact hl⟩;rw[vA]at ed;obtain⟨k,ek,ed⟩:=oY ed;have hk:=vV ek;obtain⟨fG,hk⟩:=hk;rw[List.length_range]at fG;rw[List.getElem_range]at hk;subst hk;subst ed;refine⟨fG,λx H' hy=>?_⟩;obtain⟨rfl,rfl⟩:=hy;exact⟨B,.refl s,.int _⟩
@[simp] def bB (f:FE):FA:=λρ=>match f ρ with
 |some (.int j,_)=>if -1000<=j/\j<=1000 then some (bA 0 j.toNat)else none
 |_=>none
theorem iK (hm:X.mg "range" = none)(h:JE X a f)(hg:Gl X "range":=by rfl)(hs:starEach [a] X.env=[(false,eval a X.env)]:=by rfl):PI X tg (.Call (.Name "range" p) [a] [] pos) (C5 X.K (bB f)):=by
 refine PI.to (sX hg hm (ag h ae hs) hs) λσ H R q=>?_;obtain⟨B,ρ,ds,sB,r,e',q⟩:=q;unfold bB at e';split at e'
 ·rename_i j b' ef;split at e'
  ·rename_i hj;cases e'
   refine⟨B,ρ,[.int j],sB,r,by simp[aa,af,ef],λvs H1 N1 x1 i1=>?_⟩;cases i1 with
   |cons i1 i2=>
    cases i1;cases i2
    exact⟨j,rfl,by omega,by omega,q _ H1 N1 x1 λ_=>oN 0 j.toNat⟩
  ·cases e'
 ·cases e'
theorem gE (hm:X.mg "range" = none)(h:JE X a f)(hg:Gl X "range":=by rfl)(hs:starEach [a] X.env=[(false,eval a X.env)]:=by rfl):JI X tg (.Call (.Name "range" p) [a] [] pos) (bB f) :=
 PI.to (iK hm h hg hs) λσ H R ⟨B,ρ,ds,sB,r,e',q⟩=>⟨B,ρ,ds,sB,r,e',λJ H' N x h=>q J H' N x (h _)⟩
end
def dS (K:Frag)(x:Str)(st:Stmt):Prop:=∃(f:Addr)(fd:FuncData),xN K x x st f fd/\PySem.W.nsIn K mainGlobals x=some (some (.ref f))
theorem def_mk {K:Frag}{x:Str}{st:Stmt}{f:Addr}{oc:Value}{od an:Option Addr}{jy:Array (Option Value)}{kV doc pm bL ct:Value}(a:PySem.W.nsIn K mainGlobals x=some (some (.ref f)))
  (l:K.lookup f=some ⟨oc,od,.func (fnOf x x (cz st) (ba st) (ar st) .none kV doc pm an bL ct),jy⟩) (c:PySem.W.codeIn K bL x=true) (k:PySem.W.keepIn K (.ref f)=true):dS K x st:=⟨f,_,uU l c k,a⟩
section
variable {P:Program}{w:World}{K:Frag}{mg:Str->Option Value}{base:Heap}
theorem dS.fn {x:Str}{st:Stmt}{N ps:List Str}{k:Nat}{g:FS}{h:Heap}(F:dS K x st)(X:K.In h)(G:h.Ns mainGlobals mg)(S:FnScope N ps (ar st))
  (ro:∀(kV doc pm:Value)(an:Option Addr)(bL ct:Value)(us:List Value),us.length=ps.length->bindArgs (fnOf x x (cz st) (ba st) (ar st) .none kV doc pm an bL ct) ⟨us,[]⟩=pure (ps.zip us))
  (hb:∀(f:Addr)(bL:Value)(A:Around)(outer:List PySem.Env)(s:Shared)(H:Hp)(E:XK),cD k (A.deeper (envOfC x (ar st) s.heap.objs.size f bL))->nZ (eB ko P w K mg base N x (ar st) f bL A outer s H E).nox (ba st) g):
  Fn P w K mg base (k+1) x (aZ g ps.length (N.length - ps.length)):=by
 obtain⟨f,fd,F1,a⟩:=F;exact⟨f,fd,ps,DI F1 S (hb f),mg_of X G a,F1.kp,F1.binds ro⟩
end
def DO (H:Hp):Prop:=∀b,H b=none∨(∃o xs,H b=some (.frz o (.lst xs)))∨∃q,H b=some (.tbl q)
noncomputable def kB (gz:List (Addr×Str))(G:Hp):Hp:=λb=>match gz.lookup b with|some q=>some (.tbl q)|none=>G b
theorem dH (e:gz.lookup b=some q):kB gz G b=some (.tbl q):=by unfold kB;rw[e]
theorem fP (e:gz.lookup b=none):kB gz G b=G b:=by unfold kB;rw[e]
theorem tG {P:Program}{w:World}{K:Frag}{mg mb:Str->Option Value}{k:Nat}{fa a:Addr}{fd:FuncData}{x:Str}{sp:Sp}{s₁:Shared}{vs:List Value}{ns:List Int}(gz:List (Addr×Str))
  (ht:∀b q,gz.lookup b=some q->s₁.heap.get? b=some (PySem.W.tabObj #[])/\isCodeTable s₁.heap b) (Lh:PySem.W.noTabs K=true)
  (KX:K.In s₁.heap) (EN:s₁.heap.Ns mainGlobals mg) (hb:s₁.heap.Ns builtinsNs mb) (Li:∀x:Str,x ≠ "__name__"->mb x=bootBuiltins x) (HA:s₁.heap.NoLimit)
  (Lj:∃bm ob,mg "__builtins__" = some (.ref bm)/\bm≠builtinsNs/\s₁.heap.get? bm=some ob/\ob.cls=.type "module"/\ob.dict=some builtinsNs/\ob.data=.plain) (hg:s₁.gens=#[])
  (ha:s₁.heap.get? a=some { cls:=.type "list",data:=.seq vs.toArray }) (hi:IntsAre vs ns) (hl:ns.length<=sizeLine) (hr:cD k callerA)
  (F:∀base:Heap,K.In base->base.Ns mainGlobals mg->eZ P w K mg base ko k fa fd [x] sp) (EO:∀(s:Shared)(u:Value),BindsTo s fd ⟨[u],[]⟩ [(x,u)])
  (A9:∀H:Hp,(∀b q,gz.lookup b=some q->H b=some (.tbl q))->fZ K H a (ns.map V.int)->sp [.ref a] H (λv _=>v=.bl true) λ_ _ _=>False):
  codeAny (model P w) callerA (.call (.ref fa) ⟨[.ref a],[]⟩) (λr s'=>r=.ok (.ret (.bool true))/\OldK s₁.heap s'.heap/\s'.os=s₁.os/\AllBare s'.gens) s₁:=by
 have rv:=L2.mh hi;have HB:=hi.length;have EQ:∀H:Hp,DO H->(∀b q,gz.lookup b=some q->H b=some (.tbl q))->fZ K H a (ns.map V.int)->j0 P w H s₁.heap->(∀b q,H b=some (.tbl q)->s₁.heap.get? b=some (PySem.W.tabObj #[])/\isCodeTable s₁.heap b) ->
   (∀b o u,H b=some (.frz o u)->b=a)->(∀b o u,H b=some (.frz o u)->K.lookup b=none) ->
   codeAny (model P w) callerA (.call (.ref fa) ⟨[.ref a],[]⟩) (λr s'=>r=.ok (.ret (.bool true))/\OldK s₁.heap s'.heap/\s'.os=s₁.os/\AllBare s'.gens) s₁:=by
  intro H hO hT hS hok hA hB hK;have noA:∀ {b:Addr}{o:Obj},s₁.heap.get? b=some o->(o.cls≠.none)->(o.cls≠.type "list")->H b=none:=λ{b o} e d d'=>by
   rcases hO b with q|⟨ob,xs,q⟩|⟨u,q⟩
   ·exact q
   ·have e':b=a:=hB b _ _ q;subst e';rw[ha]at e;cases e;exact absurd rfl d'
   ·rw[(hA b u q).1]at e;cases e;exact absurd rfl d
  have Lk:∀ {b:Addr}{o:Obj}{es:Array DictEntry}{ep:Nat},s₁.heap.get? b=some o->o.data=.dict es ep->H b=none:=λ{b o es ep} e d=>by
   rcases hO b with q|⟨ob,xs,q⟩|⟨u,q⟩
   ·exact q
   ·have e':b=a:=hB b _ _ q;subst e';rw[ha]at e;cases e;cases d
   ·rw[(hA b u q).1]at e;cases e;cases d
  have Ga:∀ {b:Addr}{m:Str->Option Value},s₁.heap.Ns b m->(oj s₁.heap H).Ns b m:=λ{b m} ⟨o,es,ep,e,d,r⟩=>⟨o,es,ep,ke e (Lk e d),d,r⟩;have Jm:K.In (oj s₁.heap H):=λb o e=>ke (KX b o e) (by
   rcases hO b with q|⟨ob,xs,q⟩|⟨u,q⟩
   ·exact q
   ·rw[hK b _ _ q]at e;cases e
   ·have z:=(hA b u q).1;rw[KX b o e]at z;cases z
    have:=uR Lh _ (PySem.W.mem_of_lookupK e);simp at this)
  have hM:Mod K mg (oj s₁.heap H):=⟨Jm,Ga EN,⟨mb,Ga hb,Li⟩,let ⟨mc,h1,h2⟩:=HA;⟨mc,Ga h1,h2⟩,by
   obtain⟨bm,ob,b1,b2,b3,b4,b5⟩:=Lj;exact⟨bm,ob,b1,b2,ke b3 (noA b3 (by rw[b4];exact λz=>nomatch z) (by rw[b4];intro z;injection z with z;exact absurd z (by decide))),b4,b5⟩⟩
  have e0:Env0 P w K mg (oj s₁.heap H) callerA [] s₁ H:=⟨rfl,hM,λb o e=>xQ e,Nat.le_of_eq (sV _ _),trivial,λb hb=>absurd (show b∈([]:List Addr)from hb) (by simp),hok,.of_eq hg⟩;refine codeAny_mono ((F _ Jm (Ga EN)).run callerA [] s₁ H ⟨[.ref a],[]⟩ [.ref a] [.ref a] _ _ hr e0 (EO s₁ (.ref a)) (.cons rfl .nil) (A9 H hT hS)) λr s' h=>?_;cases r with
  |error e=>exact False.elim h
  |ok fl=>
   cases fl with
   |next=>exact False.elim h
   |brk=>exact False.elim h
   |cont=>exact False.elim h
   |ret u=>
    obtain⟨v,H',os,bare,un,ER,r',q⟩:=h;have q':v=.bl true:=q;subst q';obtain rfl:u=Value.bool true:=r';have kp:∀b o,H b=none->s₁.heap.get? b=some o->s'.heap.get? b=some o:=λb o n e=>un.keep b o e n (by intro z;exact absurd (show b∈([]:List Addr)from z) (by simp)) (by simp);refine⟨rfl,⟨λb o e=>?_,λb o e=>un.there b o e (by simp)⟩,os,bare⟩;rcases hO b with z|⟨ob,xs,z⟩|⟨u,z⟩
    ·exact .inl (kp b o z e)
    ·have z2:=un.frzs b ob _ z;obtain⟨e1,_⟩:=hok b _ z;obtain⟨e2,_⟩:=ER b _ z2;rw[e]at e1;cases e1;exact .inl e2
    ·obtain⟨e1,e2⟩:=hA b u z;rw[e]at e1;cases e1;obtain⟨ps,e3,_⟩:=ER b _ (un.tbls b u z);exact .inr (.inl ⟨e2,rfl,#[],ps,rfl,by simpa using e3⟩)
 have Ck:∀q,gz.lookup a≠some q:=λq z=>by
  have:=(ht a q z).1;rw[ha]at this;cases this
 have ta:gz.lookup a=none:=by
  cases z:gz.lookup a with
  |none=>rfl
  |some q=>exact absurd z (Ck q)
 have AA:∀(G:Hp) b q,gz.lookup b=some q->bC P w (kB gz G) s₁.heap b (.tbl q):=λG b q z=>⟨#[],(ht b q z).1,trivial,λpos cv c=>by cases c⟩;cases hk:K.lookup a with
 |some o=>
  have e:=KX a o hk;rw[ha]at e;cases e
  refine EQ (kB gz λ_=>none) (λb=>?_) (λb q z=>dH z) (.inr ⟨_,vs.toArray,_,hk,rfl,rfl,rfl,by rw[vG,HB];exact hl,by simpa using rv⟩) (λb u z=>?_) (λb q z=>?_) (λb o u z=>?_) λb o u z=>?_
  all_goals cases zt:gz.lookup b with
   |none=>first|exact .inl (fP zt)|(rw[fP zt]at z;cases z)
   |some q'=>first|exact .inr (.inr ⟨q',dH zt⟩)|(rw[dH zt]at z;cases z;done)|(rw[dH zt]at z;cases z;first|exact AA _ b _ zt|exact ht b _ zt)
 |none=>
  refine EQ (kB gz λb=>if b=a then some (.frz { cls:=.type "list",data:=.seq vs.toArray } (.lst (ns.map V.int)))else none) (λb=>?_) (λb q z=>dH z) (.inl (.inr ⟨{ cls:=.type "list",data:=.seq vs.toArray },by rw[fP ta,if_pos rfl]⟩)) (λb u z=>?_) (λb q z=>?_) (λb o u z=>?_) λb o u z=>?_
  all_goals cases zt:gz.lookup b with
   |some q'=>first|exact .inr (.inr ⟨q',dH zt⟩)|(rw[dH zt]at z;cases z;done)|(rw[dH zt]at z;cases z;first|exact AA _ b _ zt|exact ht b _ zt)
   |none=>
    first
    |rw[fP zt]at z
    |rw[fP zt]
    by_cases hb:b=a
    ·first
     |rw[if_pos hb]at z
     |rw[if_pos hb]
     first
     |exact .inr (.inl ⟨_,_,rfl⟩)
     | (cases z;subst hb;exact⟨ha,by rw[vH];exact hl,vs,_,rv,ha⟩)
     |exact hb
     | (rw[hb];exact hk)
     |cases z
    ·first
     | (rw[if_neg hb]at z;cases z)
     |exact .inl (if_neg hb)
noncomputable def nD (L:List (Str×Option (Addr×Addr))):List (Addr×Str):=L.filterMap λp=>p.2.map λq=>(q.2,Bo p.1)
structure kc (K:Frag)(L:List (Str×Option (Addr×Addr))):Prop where
 names:L=o5.map λx=>(x,PySem.W.tabIn K x)
 apart:((nD L).map (·.1)).Nodup
 none:PySem.W.noTabs K=true
theorem gZ {α β:Type}[BEq α][LawfulBEq α]:∀ {l:List (α×β)}{a:α}{b:β},(l.map (·.1)).Nodup->(a,b)∈l->l.lookup a=some b
 | (c,d)::l,a,b,nd,h=>by
  rw[List.lookup_cons];rcases vP h with e|h
  ·cases e;simp
  ·have ne:a≠c:=λz=>(List.nodup_cons.mp nd).1 (by rw[←z];exact List.mem_map.mpr ⟨(a,b),h,rfl⟩);rw[show(a == c)=false by simpa using ne];exact gZ (List.nodup_cons.mp nd).2 h
theorem gF {α β:Type}[BEq α][LawfulBEq α]:∀ {l:List (α×β)}{a:α}{b:β},l.lookup a=some b->(a,b)∈l
 | (c,d)::l,a,b,h=>by
  rw[List.lookup_cons]at h;cases e:a == c with
  |true=>rw[e]at h;cases h;rw[eq_of_beq e];exact mX
  |false=>rw[e]at h;exact mZ _ (gF h)
theorem kc.tb {K:Frag}{L:List (Str×Option (Addr×Addr))}(F:kc K L){H:Hp}(h:∀b q,(nD L).lookup b=some q->H b=some (.tbl q)):Tb K H:=λx hx c P e=>by
 refine h P (Bo x) (gZ F.apart ?_);rw[F.names];exact List.mem_filterMap.mpr ⟨(x,PySem.W.tabIn K x),List.mem_map.mpr ⟨x,hx,rfl⟩,by rw[e];rfl⟩
theorem tab_no {K:Frag}{x:Str}(e:PySem.W.nsIn K mainGlobals x=some none):PySem.W.tabIn K x=none:=by unfold PySem.W.tabIn;rw[e]
theorem tabs_fit {K:Frag}{t0 t1 t2 t3 t4:Option (Addr×Addr)}(h0:PySem.W.tabIn K "in_order" = t0)(h1:PySem.W.tabIn K "has_seal" = t1)(h2:PySem.W.tabIn K "is_first_death" = t2)(h3:PySem.W.tabIn K "bases_by" = t3)(h4:PySem.W.tabIn K "as_heard" = t4)
  (ap:((nD [("in_order",t0),("has_seal",t1),("is_first_death",t2),("bases_by",t3),("as_heard",t4)]).map (·.1)).Nodup) (nt:PySem.W.noTabs K=true):kc K [("in_order",t0),("has_seal",t1),("is_first_death",t2),("bases_by",t3),("as_heard",t4)] :=
 ⟨by subst h0;subst h1;subst h2;subst h3;subst h4;rfl,ap,nt⟩
theorem dS.law {P:Program}{w:World}{K:Frag}{mg:Str->Option Value}{x y:Str}{st:Stmt}{N:List Str}{k:Nat}{g:FS}{h:Heap}{fa:Addr}(F:dS K x st)(X:K.In h)(G:h.Ns mainGlobals mg)(HC:mg x=some (.ref fa))(S:FnScope N [y] (ar st))
  (ro:∀(kV doc pm:Value)(an:Option Addr)(bL ct:Value)(u:Value),bindArgs (fnOf x x (cz st) (ba st) (ar st) .none kV doc pm an bL ct) ⟨[u],[]⟩=pure [(y,u)])
  (hb:∀(base:Heap),K.In base->base.Ns mainGlobals mg->∀(f:Addr)(bL:Value)(A:Around)(outer:List PySem.Env)(s:Shared)(H:Hp)(E:XK),cD k (A.deeper (envOfC x (ar st) s.heap.objs.size f bL))->nZ (eB ko P w K mg base N x (ar st) f bL A outer s H E).nox (ba st) g):
  ∃fd:FuncData,(∀(s:Shared)(u:Value),BindsTo s fd ⟨[u],[]⟩ [(y,u)])/\∀base:Heap,K.In base->base.Ns mainGlobals mg->eZ P w K mg base ko (k+1) fa fd [y] (xK K (aZ g 1 (N.length - 1))):=by
 obtain⟨f,fd,F1,a⟩:=F;have e:=HC.symm.trans (mg_of X G a);cases e
 refine⟨fd,λs u=>?_,λbase kb nb=>DI F1 S (hb base kb nb _)⟩;obtain⟨oc,od,kV,doc,pm,an,bL,ct,jy,rfl,lk,gq⟩:=F1.ex;exact .of_eq (ro kV doc pm an bL ct u)
section
variable {X:Cx}{a b e:Expr}{pos:Pos}{x:Str}{p:Pos}
@[simp] noncomputable def yH:D->D->OB
 |.lst xs,.lst ys=>if xs.length+ys.length<=sizeLine then some (.lst (xs++ys),true)else none
 |_,_=>none
theorem B6:cF X (binaryOp .Add) (rD X.K yH):=by
 intro ac s σ H x y v u Q I rx ry q;obtain⟨B,dx,dy,d,bb,sB,ix,iy,ee,q⟩:=q;cases ix<;>try (cases ee;done)
 all_goals (cases iy<;>try (cases ee;done))
 rename_i l vs ds h hl l' ws es h' sR;simp only[yH]at ee;split at ee
 ·rename_i hz;cases ee
  cases rx
  cases ry
  obtain⟨its,r1,p1,z1⟩:=I.list (sB.seq h);obtain⟨lT,r2,p2,z2⟩:=I.list (sB.seq h');obtain⟨⟨c1,d1,t1,s1⟩,o1,e1,n1,k1⟩:=p1.isList;obtain⟨⟨c2,d2,t2,s2⟩,o2,e2,n2,k2⟩:=p2.isList;dsimp only at e1 k1 e2 k2;subst e1;subst k1;subst e2;subst k2;have hsz:its.toArray.size+lT.toArray.size<=sizeLine:=by
   rw[vG,vG,←r1.length,←r2.length,hl.length,sR.length];exact hz
  have ea:its.toArray++lT.toArray=(its++lT).toArray:=by simp
  refine concat_meets ⟨_,o1,rfl⟩ ⟨_,o2,rfl⟩ noFill_list_add seq_list_add PySem.F.slot_list_add PySem.F.entry_list_add (PySem.F.args_list_add_2 _ _) (list_addW l l' its.toArray lT.toArray n1 n2 d1 d2 s1 s2 hsz) ⟨o1,o2,?_⟩;rw[ea];have xt:=Ext.laid (o:=.lst (vs++ws)) sB I.fresh;have il:=(hl.append sR).mono xt.bn;exact⟨.ref s.heap.objs.size,_,I.lnew (t':=s.toks) (r1.append r2) (by rw[uZ,hl.length,sR.length];exact hz),rfl,q _ _ _ xt (.lst (fZ.of aw) il) λ_=>⟨_,_,_,rfl,rfl,I.fresh,aw,il⟩⟩
 ·cases ee
@[simp] noncomputable def yI:D->D->OB
 |.tup xs,.tup ys=>if xs.length+ys.length<=sizeLine/\xs.isEmpty=false then some (.tup (xs++ys),false)else none
 |_,_=>none
theorem B7:cF X (binaryOp .Add) (rD X.K yI):=by
 refine gB yj λx y H Q q=>?_;obtain⟨B,dx,dy,d,bb,sB,ix,iy,ee,q⟩:=q;cases ix<;>try (cases ee;done)
 all_goals (cases iy<;>try (cases ee;done))
 rename_i l vs ds h hl l' ws es h' sR;simp only[yI]at ee;split at ee
 ·rename_i hz;cases ee
  have l1:=hl.length;have l2:=sR.length;refine⟨l,l',vs,ws,rfl,rfl,bg sB h,bg sB h',λz=>?_,by omega,λz=>?_,λ_ pp hp=>?_⟩
  ·subst z;cases hl
   simp at hz
  ·subst z;cases sR
   rw[uQ]at q;exact q.one sB (.tup h hl)
  ·have xt:=Ext.laid (o:=.tup (vs++ws)) sB hp;exact q _ _ _ xt (.tup (gb.of aw) ((hl.append sR).mono xt.bn)) (by simp)
 ·cases ee
@[simp] noncomputable def vw:D->D->OB
 |.bl i,.int j=>some (.int ((if i=true then 1 else 0)+j),false)
 |.int i,.bl j=>some (.int (i+b2i j),false)
 |_,_=>none
theorem B8:cF X (binaryOp .Add) (rD X.K vw):=by
 intro ac s σ H x y v u Q I rx ry q;obtain⟨B,dx,dy,d,bb,sB,ix,iy,ee,q⟩:=q;cases ix<;>try (cases ee;done)
 all_goals (cases iy<;>try (cases ee;done))
 ·simp only[vw]at ee;cases ee
  cases rx
  obtain⟨t,rfl⟩:=ry;exact IntBool.add_bool_int ⟨.int _,H,I.tok _,⟨_,rfl⟩,q.one sB (.int _)⟩
 ·simp only[vw]at ee;cases ee
  exact td ac s σ H _ _ v u Q I rx ry ⟨_,_,rfl,rfl,q.one sB (.int _)⟩
@[simp] noncomputable def bj:D->D->OB
 |.int i,.int j=>some (.int (i+j),false)
 |.str i,.str j=>if i.length+j.length<=sizeLine then some (.str (i++j),false)else none
 |.lst xs,.lst ys=>if xs.length+ys.length<=sizeLine then some (.lst (xs++ys),true)else none
 |.tup xs,.tup ys=>if xs.length+ys.length<=sizeLine/\xs.isEmpty=false then some (.tup (xs++ys),false)else none
 |.bl i,.int j=>some (.int ((if i=true then 1 else 0)+j),false)
 |.int i,.bl j=>some (.int (i+b2i j),false)
 |_,_=>none
theorem aV:cF X (binaryOp .Add) (rD X.K bj):=by
 refine gB (r:=rD X.K (xJ rV (xJ yH (xJ yI vw)))) (ky yC (ky B6 (ky B7 B8))) λx y H Q q=>?_;obtain⟨B,dx,dy,d,bb,sB,ix,iy,ee,q⟩:=q;refine⟨B,dx,dy,d,bb,sB,ix,iy,?_,q⟩;cases dx<;>try (cases ee;done)
 all_goals (cases dy<;>try (cases ee;done))
 all_goals (simp[bj]at ee;simp[xJ,rV,yH,yI,vw,ee])
@[simp] noncomputable def GI:D->Option Bool
 |.bl b=>some b
 |_=>none
def qD:List D->Option (List Bool)
 |[]=>some []
 |d::ds=>(GI d).bind λb=>(qD ds).map (b :: ·)
@[simp] theorem DP:qD []=some []:=rfl
@[simp] theorem tH (d:D)(ds:List D):qD (d::ds)=(GI d).bind λb=>(qD ds).map (b :: ·):=rfl
theorem sd {K:Frag}{B:Hp}:∀ {vs:List V}{ds:List D}{bs:List Bool}{its:List Value},L2.aT vs its->IsL K B vs ds->qD ds=some bs->its=bs.map Value.bool
 |_,_,_,_,.nil,.nil,e=>by cases e;rfl
 |_,_,_,_,.cons r rr,.cons i ii,e=>by
  rw[tH]at e;obtain⟨b,e1,e⟩:=oX e;obtain⟨bs,e2,e⟩:=oY e;subst e;cases i<;>simp only[GI]at e1<;>try (cases e1;done)
  cases e1
  cases r
  rw[sd rr ii e2];rfl
@[simp] def nE:List D->OB
 |[.lst ds]=>(qD ds).map λbs=>(.bl (bs.all id),false)
 |_=>none
theorem oP (hc:X.calm=true:=by rfl):bM X (.builtin "all") (yt X.K nE):=by
 intro ac s σ H xs us Q I rs q;obtain⟨B,ds,d,bb,sB,i,ee,q⟩:=q;cases i with
 |nil=>cases ee
 |cons i1 i=>
  cases i with
  |cons _ _=>cases i1<;>cases ee
  |nil=>
   cases i1<;>try (cases ee;done)
   rename_i l vs es h hl;obtain⟨bs,eb,ee⟩:=oY ee;cases ee
   obtain⟨u1,rfl,r1⟩:=kj rs;cases r1
   obtain⟨its,rv,p1,z1⟩:=I.list (sB.seq h);have ei:=sd rv hl eb;have fG:l<s.heap.objs.size:=by obtain⟨_,e0,_⟩:=p1.isList;exact vX e0
   refine call_all_walk (wpAny_pyIter_list p1.isList ⟨_,_,_,_,_,_,λj=>(bs[j]?).getD true,rfl,Walks.list (A:=X.A.in1) (I.ok.hd hc) s.heap.objs.size l (vS fG) its.toArray,⟨⟨_,vY _ rfl,rfl,rfl⟩,p1.isList.push _⟩,λj v s' Q' E' hP hQ=>?_,λh' tk hk=>?_⟩)
   ·have Jn:its[j]? = some v:=by simpa using hP
    rw[ei,vA]at Jn;obtain⟨c,e1,e2⟩:=oY Jn;subst e2;dsimp only at hQ;rw[e1]at hQ;exact wpAny_truthy_bool hQ
   ·have ea:((List.range its.toArray.size).all λj=>(bs[j]?).getD true)=bs.all id:=by
     rw[vG,ei,vH];exact LSm.range_all bs
    rw[ea];refine⟨.bl _,H,I.kept λc o e0=>?_,rfl,q.one sB (.bl _)⟩;exact hk c o (λhm=>by rw[uT hm]at e0;exact Nat.lt_irrefl _ (vX e0)) (vZ _ e0)
end
noncomputable def FC (z:Str):It:=⟨λi _=>i<z.cps.size,λi H v H'=>H'=H/\∃c,z.cps[i]? = some c/\v=.str ⟨#[c]⟩,λi _=>z.cps.size<=i⟩
theorem oQ {P:Program}{w:World}{K:Frag}{tg:Expr}(z:Str)(t:Tok)(it:Addr):Turn P w K tg (FC z) [it] it (λi h=>h.IsStrIter it "str_ascii_iterator" z t i) where
 mem:=List.mem_singleton.mpr rfl
 obj:=λi h st b hb=>by
  have eb:=uT hb;subst eb;obtain⟨o,e1,_,d1⟩:=st;exact⟨o,e1,λv zz=>by rw[d1]at zz;cases zz⟩
 keep:=λi h h' st k=>let ⟨o,e1,r⟩:=st;⟨o,k it (List.mem_singleton.mpr rfl) o e1,r⟩
 item:=by
  intro X hP hw hK hc i ac s σ H E I hf st hg;subst hP hw hK;have Cm:i<z.cps.size:=hg;obtain⟨f0,f1,f2,f3,f4,f5⟩:=hf it (List.mem_singleton.mpr rfl);refine wpAny_pyNext_ascii_item st (c:=z.cps[i]) (by simp[Cm]) λh' oi sb=>?_;obtain⟨o,e1,c1,d1⟩:=id oi;exact⟨_,rfl,oq (s:={ s with heap:=h',toks:=s.toks+1 }) e1 c1 d1 (by decide) ⟨.str ⟨#[z.cps[i]]⟩,H,I.turned (λb o hb e2=>(sb.2 b hb).trans e2) f0 f1 f3 f4 f5,⟨_,rfl⟩,⟨rfl,_,by simp[Cm],rfl⟩,oi,λb hb=>(hf b hb).1⟩⟩
 done:=by
  intro X hP hw hK hc i ac s σ H E I hf st hg;subst hP hw hK;have Cm:z.cps.size<=i:=hg;obtain⟨f0,f1,f2,f3,f4,f5⟩:=hf it (List.mem_singleton.mpr rfl);exact wpAny_pyNext_ascii_end (I.ok.hd hc) st (by simp;omega) λh' eb=>⟨rfl,I.turned (t':=s.toks) (λb o hb e2=>eb b o hb e2) f0 f1 f3 f4 f5⟩
 self:=λ_ _ _ _ _ st h=>wpAny_pyIter_striter_ascii st h
theorem oR {P:Program}{w:World}{K:Frag}{tg:Expr}(z:Str)(t:Tok)(it:Addr):Turn P w K tg (FC z) [it] it (λi h=>h.IsStrIter it "str_iterator" z t i) where
 mem:=List.mem_singleton.mpr rfl
 obj:=λi h st b hb=>by
  have eb:=uT hb;subst eb;obtain⟨o,e1,_,d1⟩:=st;exact⟨o,e1,λv zz=>by rw[d1]at zz;cases zz⟩
 keep:=λi h h' st k=>let ⟨o,e1,r⟩:=st;⟨o,k it (List.mem_singleton.mpr rfl) o e1,r⟩
 item:=by
  intro X hP hw hK hc i ac s σ H E I hf st hg;subst hP hw hK;have Cm:i<z.cps.size:=hg;obtain⟨f0,f1,f2,f3,f4,f5⟩:=hf it (List.mem_singleton.mpr rfl);refine wpAny_pyNext_wide_item st (c:=z.cps[i]) (by simp[Cm]) λh' oi sb=>?_;obtain⟨o,e1,c1,d1⟩:=id oi;exact⟨_,rfl,oq (s:={ s with heap:=h',toks:=s.toks+1 }) e1 c1 d1 (by decide) ⟨.str ⟨#[z.cps[i]]⟩,H,I.turned (λb o hb e2=>(sb.2 b hb).trans e2) f0 f1 f3 f4 f5,⟨_,rfl⟩,⟨rfl,_,by simp[Cm],rfl⟩,oi,λb hb=>(hf b hb).1⟩⟩
 done:=by
  intro X hP hw hK hc i ac s σ H E I hf st hg;subst hP hw hK;have Cm:z.cps.size<=i:=hg;obtain⟨f0,f1,f2,f3,f4,f5⟩:=hf it (List.mem_singleton.mpr rfl);exact wpAny_pyNext_wide_end (I.ok.hd hc) st (by simp;omega) λh' eb=>⟨rfl,I.turned (t':=s.toks) (λb o hb e2=>eb b o hb e2) f0 f1 f3 f4 f5⟩
 self:=λ_ _ _ _ _ st h=>wpAny_pyIter_striter_wide st h
section
variable {X:Cx}{a b e:Expr}{pos:Pos}{x:Str}{p:Pos}{tg:Expr}
theorem vx {l:Expr}{tl:TE}(hl:PE X l tl):PI X tg l (λσ H R=>tl σ H λx H1=>∃z,x=.str z/\R (FC z) H1):=by
 intro ac s σ H R I h;refine bX (hl ac s σ H _ I h) λv s1 ⟨x,H1,I1,r1,q1⟩=>?_;obtain⟨z,rfl,q⟩:=q1;obtain⟨t,rfl⟩:=r1;have fp:∀b∈[s1.heap.objs.size],iI X ac H1 b:=λb hb=>by
  rw[uT hb];exact I1.fpOk (vT _) (I1.hok.fresh (vT _))
 cases ha:z.cps.all (· < 128) with
 |true=>exact wpAny_pyIter_ascii ha ⟨_,[s1.heap.objs.size],_,_,H1,rfl,I1.kept (t':=s1.toks) λb o e=>vZ _ e,oQ z t _,⟨_,vY _ rfl,rfl,rfl⟩,fp,q⟩
 |false=>exact wpAny_pyIter_wide ha ⟨_,[s1.heap.objs.size],_,_,H1,rfl,I1.kept (t':=s1.toks) λb o e=>vZ _ e,oR z t _,⟨_,vY _ rfl,rfl,rfl⟩,fp,q⟩
noncomputable def oS (z:Str):List D:=z.cps.toList.map λc=>.str ⟨#[c]⟩
theorem vy {K:Frag}{B:Hp}(z:Str):lJ K (FC z) B (oS z):=by
 intro i H s;refine⟨λd ed=>?_,λhl=>by unfold oS at hl;show z.cps.size<=i;simpa using hl⟩;unfold oS at ed;rw[vA]at ed;obtain⟨c,ec,rfl⟩:=oY ed;have Jo:z.cps[i]? = some c:=by simpa using ec
 refine⟨(Array.getElem?_eq_some_iff.mp Jo).1,λv H' hy=>?_⟩;obtain⟨rfl,c',e1,rfl⟩:=hy;rw[Jo]at e1;cases e1;exact⟨B,.refl s,.str _⟩
@[simp] def B9:D->Option (List D)
 |.lst ds=>some ds
 |.tup ds=>some ds
 |.str z=>some (oS z)
 |_=>none
@[simp] def iL (f:FE):FA:=λρ=>(f ρ).bind λx=>B9 x.1
theorem gG (h:JE X e f):JI X tg e (iL f):=by
 intro ac s σ H R I q;obtain⟨B,ρ,ds,sB,r,e',q⟩:=q;obtain⟨xx,ex,es⟩:=oX e';obtain⟨xd,xb⟩:=xx;cases xd with
 |lst l=>exact rZ h ac s σ H R I ⟨B,ρ,ds,sB,r,by unfold vv;rw[ex];exact es,q⟩
 |tup l=>exact rZ h ac s σ H R I ⟨B,ρ,ds,sB,r,by unfold vv;rw[ex];exact es,q⟩
 |str z=>
  cases es
  refine vx h ac s σ H R I ⟨B,ρ,_,_,sB,r,ex,λv H1 N1 x1 i1 _=>?_⟩;cases i1
  exact⟨z,rfl,q _ H1 N1 x1 (vy z)⟩
 |_=>cases es
theorem yJ:uy X (λx lo hi H Q=>∃z,x=.str z/\z.length<=sizeLine/\Q (.str (Txt.slice z lo hi)) H):=by
 intro ac s σ H x v vl vu lo hi sl Q I rx hs pl pu h;obtain⟨z,rfl,hz,q⟩:=h;obtain⟨t,rfl⟩:=rx;have g0:∀lo hi,Q (.str (Txt.slice z lo hi)) H->(Txt.slice z lo hi).length<=sizeLine/\∀t' k,EP X ac σ Q (.str (Txt.slice z lo hi) t') { s with toks:=k }:=λlo hi q=>
  ⟨vR (Txt.slice_le z _ _) hz,λt' k=>⟨.str _,H,I.tok k,⟨t',rfl⟩,q⟩⟩
 refine⟨"str",_,PySem.F.slot_str_getitem.lookup,typeIs_str _ _ _,?_⟩;cases pl with
 |none=>
  cases pu with
  |none=>exact wpAny_getItem_str_slice (l:=none) (u:=none) (st:=none) hs rfl (post_val_or_str (g0 _ _ q))
  |int j tj=>exact wpAny_getItem_str_slice (l:=none) (u:=some (j,tj)) (st:=none) hs rfl (post_val_or_str (g0 _ _ q))
 |int i ti=>
  cases pu with
  |none=>exact wpAny_getItem_str_slice (l:=some (i,ti)) (u:=none) (st:=none) hs rfl (post_val_or_str (g0 _ _ q))
  |int j tj=>exact wpAny_getItem_str_slice (l:=some (i,ti)) (u:=some (j,tj)) (st:=none) hs rfl (post_val_or_str (g0 _ _ q))
theorem tI {A:Around}{E:Value->Shared->Prop}{s:Shared}{prog:Program}{w:World}{t sl:Addr}{am:Array Value}{vl vu:Value}{lo hi:Option Int}{Q:Value->Shared->Prop}(ht:IsTup s.heap t am)(hs:s.heap.IsSliceOf sl vl vu .none)(pl:IsPart vl lo)(pu:IsPart vu hi)
  (h0:HT.c6 am.size 0 lo=0) (h1:HT.c6 am.size am.size hi=am.size) (h:Q (.ref t) s):wpAny (model prog w) A (getItem (.ref t) (.ref sl)) Q E s:=by
 obtain⟨os,z6,FU,Cg⟩:=id hs
 have hT:s.TypeIs (.ref sl) "slice":=⟨os,z6,FU⟩
 unfold getItem
 try with_reducible refine wpAny_holding ?_
 first|refine wX (wY ?_)|skip
 refine wX (wpAny_sequenceKey ht.typeIs (by decide) ?_)
 refine wX (wpAny_callSpecial?_slot (name:=Str.ofString "__getitem__") ht.typeIs PyProof.Rows.slot_tuple_getitem (wpAny_call_entry PyProof.Rows.slot_tuple_getitem ht.typeIs entry_tuple_getitem ?_ (args_tuple_getitem _ _)))
 show wpAny _ _ (Builtin.Tuple.tupleItemsOf (.ref t)>>=_) _ _ s
 refine wX (tupleItemsOf_ ht ?_)
 refine wX (wpAny_typeOf hT ?_)
 rw[if_pos (by decide)]
 refine wX (HT.fK hs pl pu ?_)
 have ES:(((HT.c6 am.size 0 lo:Nat):Int) == 0 && (1:Int) == 1 && (HT.c6 am.size am.size hi - HT.c6 am.size 0 lo) == am.size)=true:=by
  rw[h0,h1];simp
 show wpAny _ _ (if(((HT.c6 am.size 0 lo:Nat):Int) == 0 && (1:Int) == 1 && (HT.c6 am.size am.size hi - HT.c6 am.size 0 lo) == am.size)=true then _ else _) _ _ s
 rw[if_pos ES]
 refine wX ?_
 unfold Builtin.Tuple.tupleIsExact
 refine wX (wpAny_typeOf ht.typeIs (wY ?_))
 show wpAny _ _ (if((Value.type "tuple") == Value.type "tuple")=true then _ else _) _ _ s
 rw[if_pos (by decide)]
 refine wX (wpAny_rule ?_)
 exact wY ⟨_,rfl,wY h⟩
theorem yK:uy X (λx lo hi H Q=>∃a xs,x=.ref a/\gb X.K H a xs/\HT.c6 xs.length 0 lo=0/\HT.c6 xs.length xs.length hi=xs.length/\Q (.ref a) H):=by
 intro ac s σ H x v vl vu lo hi sl Q I rx hs pl pu h;obtain⟨a,xs,rfl,hx,h0,h1,q⟩:=h;cases rx
 obtain⟨its,r,ht,hz⟩:=I.tuple hx;have bS:its.toArray.size=xs.length:=by rw[vG];exact r.length.symm
 refine⟨"tuple",_,PyProof.Rows.slot_tuple_getitem.lookup,ht.typeIs,?_⟩;exact tI ht hs pl pu (by rw[bS];exact h0) (by rw[bS];exact h1) ⟨.ref a,H,I,rfl,q⟩
@[simp] def iB (fa:FE)(fl fh:FO):FE:=λρ=>(fa ρ).bind λx=>(fl ρ).bind λl=>(fh ρ).bind λh=>match x.1 with
 |.lst ds=>some (.lst (jP ds l h),true)
 |.tup ds=>some (.tup (jP ds l h),false)
 |.str z=>if z.length<=sizeLine then some (.str (Txt.slice z l h),false)else none
 |_=>none
theorem qE {ds:List D}{lo hi:Option Int}(h0:HT.c6 ds.length 0 lo=0)(h1:HT.c6 ds.length ds.length hi=ds.length):jP ds lo hi=ds:=by
 unfold jP;rw[h0,h1];simp
theorem bH {lo hi:Option Expr}{p2:Pos}{fa:FE}{fl fh:FO}(ha:JE X e fa)(hl:JO X lo fl)(hh:JO X hi fh):JE X (.Subscript e (.Slice lo hi none p2) pos) (iB fa fl fh):=by
 refine PE.to (uJ (uy.or (uy.or yo Bg) (uy.or yJ yK)) ha hl hh) λσ H Q q=>?_;obtain⟨B,ρ,d,b,sB,r,e,q⟩:=q;obtain⟨x,ex,e⟩:=oX e;obtain⟨l,el,e⟩:=oX e;obtain⟨h,eh,e⟩:=oX e;refine⟨B,ρ,x.1,x.2,sB,r,ex,λv H1 N1 x1 i1 _=>⟨N1,ρ,l,x1.nh,r.mono x1.bn,el,λH2 h2=>⟨N1,ρ,h,x1.nh.trans h2,r.mono x1.bn,eh,λH3 h3=>?_⟩⟩⟩;have s3:aO N1 H3:=x1.nh.trans (h2.trans h3);have q3:=q.into (x1.trans (.grow x1.nh (h2.trans h3)));obtain⟨xd,xb⟩:=x;dsimp only at e i1;cases i1 with
 |@tup a' vs ds hs hv=>
  cases e
  by_cases hw:HT.c6 ds.length 0 l=0/\HT.c6 ds.length ds.length h=ds.length
  ·rw[qE hw.1 hw.2]at q3;exact .inr (.inr ⟨a',vs,rfl,bg s3 hs,by rw[hv.length];exact hw.1,by rw[hv.length];exact hw.2,q3.one s3 (.tup hs hv)⟩)
  ·refine .inl (.inr ⟨a',vs,rfl,bg s3 hs,by rw[hv.length];exact hw,λp hp=>?_⟩);have x4:=Ext.laid (o:=.tup (lG vs l h)) s3 hp;exact q3 _ _ _ x4 (.tup (gb.of aw) ((nv hv).mono x4.bn)) (by simp)
 |@lst a' vs ds hs hv=>
  cases e
  refine .inl (.inl ⟨a',vs,rfl,s3.seq hs,λp hp=>?_⟩);have x4:=Ext.laid (o:=.lst (lG vs l h)) s3 hp;exact q3 _ _ _ x4 (.lst (fZ.of aw) ((nv hv).mono x4.bn)) λ_=>⟨p,_,_,rfl,rfl,hp,aw,(nv hv).mono x4.bn⟩
 |str z=>
  dsimp only at e;split at e
  ·rename_i hz;cases e
   exact .inr (.inl ⟨z,rfl,hz,q3.one s3 (.str _)⟩)
  ·cases e
 |_=>cases e
theorem const_int {K:Frag}{y:Str}{i:Int}{t:Tok}(e:PySem.W.nsIn K mainGlobals y=some (some (.int i t))):∃u v,PySem.W.nsIn K mainGlobals y=some (some u)/\aI v u/\∀B,Is K B v (.int i):=⟨_,.int i,e,⟨t,rfl⟩,λ_=>.int i⟩
noncomputable def nF:Value->D->Bool
 |.none,.non=>true
 |.bool a,.bl b=>a == b
 |.int i _,.int j=>decide (i=j)
 |.str i _,.str j=>decide (i=j)
 |_,_=>false
def gh:List Value->List D->Bool
 |[],[]=>true
 |u::us,d::ds=>nF u d && gh us ds
 |_,_=>false
theorem gU {K:Frag}{B:Hp}:∀ {u:Value}{d:D},nF u d=true->∃v,aI v u/\Is K B v d
 |.none,.non,_=>⟨.non,rfl,.non⟩
 |.bool a,.bl b,h=>by
  have:a=b:=eq_of_beq h;subst this;exact⟨.bl a,rfl,.bl a⟩
 |.int i t,.int j,h=>by
  have:i=j:=of_decide_eq_true h;subst this;exact⟨.int i,⟨t,rfl⟩,.int i⟩
 |.str i t,.str j,h=>by
  have:i=j:=of_decide_eq_true h;subst this;exact⟨.str i,⟨t,rfl⟩,.str i⟩
theorem gi {K:Frag}:∀ {us:List Value}{ds:List D},gh us ds=true->∃vs,L2.aT vs us/\∀B,IsL K B vs ds
 |[],[],_=>⟨[],.nil,λ_=>.nil⟩
 |u::us,d::ds,h=>by
  rw[gh,vC]at h;obtain⟨vs,r,i⟩:=gi (K:=K) h.2;obtain⟨v,r1,_⟩:=gU (K:=K) (B:=λ_=>none) h.1;refine⟨v::vs,.cons r1 r,λB=>?_⟩;obtain⟨v',HD,i'⟩:=gU (K:=K) (B:=B) h.1;have:v'=v:=by have z1:=r1.abs;rw[HD.abs]at z1;exact vJ z1
  subst this;exact .cons i' (i B)
theorem const_tup {K:Frag}{y:Str}{a:Addr}{od:Option Addr}{its:Array Value}{n:Nat}{jy:Array (Option Value)}{ds:List D}(e:PySem.W.nsIn K mainGlobals y=some (some (.ref a)))
  (l:K.lookup a=some ⟨.type "tuple",od,.seq its n,jy⟩) (h:(decide (its.size<=1000) && gh its.toList ds)=true):∃u v,PySem.W.nsIn K mainGlobals y=some (some u)/\aI v u/\∀B,Is K B v (.tup ds):=by
 rw[vC]at h;obtain⟨vs,r,i⟩:=gi (K:=K) h.2;exact⟨_,.ref a,e,rfl,λB=>.tup (.inr ⟨_,its,n,l,rfl,rfl,Nat.le_of_lt (Nat.lt_of_le_of_lt (of_decide_eq_true h.1) (by decide)),r⟩) (i B)⟩
end
section
variable {X:Cx}{a b o e:Expr}{pos:Pos}{x:Str}{p:Pos}{tg:Expr}
@[simp] noncomputable def BA:D->Option Str
 |.str z=>some z
 |_=>none
def gH:List D->Option (List Str)
 |[]=>some []
 |d::ds=>(BA d).bind λz=>(gH ds).map (z :: ·)
@[simp] theorem C8:gH []=some []:=rfl
@[simp] theorem qF (d:D)(ds:List D):gH (d::ds)=(BA d).bind λz=>(gH ds).map (z :: ·):=rfl
@[simp] theorem C9 (zs:List Str):gH (zs.map D.str)=some zs:=by
 induction zs with
 |nil=>rfl
 |cons z zs ih=>simp[ih]
theorem iM {K:Frag}{B:Hp}:∀ {vs:List V}{ds:List D}{zs:List Str}{its:List Value},L2.aT vs its->IsL K B vs ds->gH ds=some zs->StrsAre its zs
 |_,_,_,_,.nil,.nil,e=>by cases e;exact .nil
 |_,_,_,_,.cons r rr,.cons i ii,e=>by
  rw[qF]at e;obtain⟨z,e1,e⟩:=oX e;obtain⟨zs,e2,e⟩:=oY e;subst e;cases i<;>simp only[BA]at e1<;>try (cases e1;done)
  cases e1
  obtain⟨t,rfl⟩:=r;exact .cons _ t (iM rr ii e2)
noncomputable def dU:List Nat->List D->Env->Option Env
 |[],[],ρ=>some ρ
 |i::is,d::ds,ρ=>dU is ds (ρ.set i (some (d,false)))
 |_,_,_=>none
@[simp] theorem mn (ρ:Env):dU [] [] ρ=some ρ:=by rw[dU]
@[simp] theorem ip (i:Nat)(is:List Nat)(d:D)(ds:List D)(ρ:Env):dU (i::is) (d::ds) ρ=dU is ds (ρ.set i (some (d,false))):=by rw[dU]
@[simp] theorem DQ (d:D)(ds:List D)(ρ:Env):dU [] (d::ds) ρ=none:=by simp only[dU]
@[simp] theorem DR (i:Nat)(is:List Nat)(ρ:Env):dU (i::is) [] ρ=none:=by simp only[dU]
@[simp] def CA (is:List Nat):FG:=λd ρ=>match d with|.tup ds=>dU is ds ρ|_=>none
def jm:List Nat->zW
 |[]=>Dk
 |i::is=>zX (iH i) (jm is)
theorem vz:aO (cN N (own σ ρ)) (cN N (own (σ.set i (some v)) (ρ.set i (some (d,false))))):=eC λa u e q=>⟨e,λz=>q (by
 rcases ng z with⟨_,d',p⟩|⟨j,_,d',q1,q2⟩
 ·cases p
 ·exact⟨j,d',q1,q2⟩)⟩
theorem jn {K:Frag}:∀ {is:List Nat}{vs:List V}{ds:List D}{B0 H0 N H:Hp}{σ:St}{ρ ρ':Env}{Q:St->Hp->Prop},dg K B0 H0 N H σ ρ->IsL K (cN N (own σ ρ)) vs ds->dU is ds ρ=some ρ'->(∀σ',dg K B0 H0 N H σ' ρ'->Q σ' H)->jm is vs σ H Q
 |[],_,_,_,_,_,_,_,_,_,_,s,.nil,e,k=>by
  rw[mn]at e;cases e;exact⟨rfl,k _ s⟩
 |[],_,_,_,_,_,_,_,_,_,_,_,.cons _ _,e,_=>by simp at e
 |_::_,_,_,_,_,_,_,_,_,_,_,_,.nil,e,_=>by simp at e
 |i::is,_,_,_,_,_,_,_,_,_,_,s,.cons h hs,e,k=>by
  rw[ip]at e;exact⟨_,_,rfl,jn (s.bind h) (hs.mono vz) e k⟩
theorem jo:∀ {is:List Nat}{ds:List D}{ρ ρ':Env},dU is ds ρ=some ρ'->ds.length=is.length
 |[],[],_,_,_=>rfl
 |_::_,_::_,_,_,e=>by rw[ip]at e;simp[jo e]
 |[],_::_,_,_,e=>by simp at e
 |_::_,[],_,_,e=>by simp at e
theorem mo {K:Frag}{n:Nat}{B H:Hp}{ρ0:Env}{Q:St->Hp->Prop}(cl:∀i,i<n->ρ0[i]? = some none):∀ {is:List Nat}{vs:List V}{ds:List D}{σ:St}{ρ ρ1:Env},(∀i∈is,i<n)->dD K B σ ρ->IsL K B vs ds->dU is ds ρ=some ρ1->ρ.length=σ.length->ρ.length=ρ0.length ->
  (∀σ1,dD K B σ1 ρ1->(∀B',dD K B' σ ρ0->dD K B' σ1 ρ0)->ρ0.length=σ1.length->Q σ1 H)->jm is vs σ H Q
 |[],_,_,_,_,_,_,rp,.nil,e,l1,l2,k=>by
  rw[mn]at e;cases e;exact⟨rfl,k _ rp (λ_ z=>z) (by omega)⟩
 |[],_,_,_,_,_,_,_,.cons _ _,e,_,_,_=>by simp at e
 |_::_,_,_,_,_,_,_,_,.nil,e,_,_,_=>by simp at e
 |i::is,_,_,σ,ρ,_,hn,rp,.cons (v:=v) h hs,e,l1,l2,k=>by
  rw[ip]at e;have hi:=hn i mX;have ur:i<σ.length:=by
   have:=(vV (cl i hi)).1;omega
  refine⟨_,_,rfl,mo cl (λj hj=>hn j (mZ _ hj)) ⟨rp.tb,λj d b q=>?_⟩ hs e (by simpa using l1) (by simpa using l2) λσ1 r1 r2 l=>k σ1 r1 (λB' z=>r2 B' ⟨z.tb,λj d b q=>?_⟩) l⟩
  ·rcases bE q with⟨rfl,pp⟩|⟨ne,pp⟩
   ·cases pp
    exact⟨v,by simp[ur],h⟩
   ·obtain⟨w,h1,h2⟩:=rp.at' j d b pp;exact⟨w,by rw[vB ne];exact h1,h2⟩
  ·obtain⟨w,h1,h2⟩:=z.at' j d b q;have ne:i≠j:=λz=>by subst z;rw[cl i hi]at q;cases q
   exact⟨w,by rw[vB ne];exact h1,h2⟩
theorem Al {K:Frag}{n:Nat}{is:List Nat}(hn:∀i∈is,i<n):Ah K n (CA is) (Dl K is.length (jm is)):=by
 intro B H σ ρ ρ1 v d Q cl rep s h e hl k;cases h with
 |@tup a vs ds ht hv=>
  have e':dU is ds ρ=some ρ1:=e;exact⟨a,vs,rfl,bg s ht,by rw[hv.length];exact jo e',mo cl hn rep hv e' hl rfl k⟩
 |_=>cases e
end
section
variable {prog:Program}{w:World}{A:Around}{E:Value->Shared->Prop}{s:Shared}
theorem qG (st:s.heap.IsTupleIter it l i)(ht:s.heap.IsTuple l am)(hv:am[i]? = some v)
  (k:∀h',h'.IsTupleIter it l (i+1)->Heap.SameBut it s.heap h'->Q v { s with heap:=h' }):wpAny (model prog w) A (Builtin.SmallTypes.nextOf (.ref it)) Q E s:=by
 obtain⟨o1,g1,c1,d1⟩:=id st;obtain⟨o2,g2,_,n2,d2⟩:=ht;unfold Builtin.SmallTypes.nextOf;refine wX (wpAny_callSpecial?_slot (name:=Str.ofString "__next__") st.typeIs PySem.F.slot_tuple_iterator_next (wpAny_call_entry PySem.F.slot_tuple_iterator_next st.typeIs PySem.F.entry_tuple_iterator_next ?_ (PySem.F.args_tuple_iterator_next_1 _)));show wpAny _ _ (field (.ref it) 0>>=_) _ _ _;refine wX (wpAny_field g1 d1 (x:=.ref l) rfl ?_);show wpAny _ _ (if(Value.ref l == Value.none)=true then _ else _) _ _ _;rw[if_neg (λz=>uX z:¬((Value.ref l == Value.none)=true))];show wpAny _ _ (field (.ref it) 1>>=_) _ _ _;refine wX (wpAny_field g1 d1 (x:=.int i 0) rfl ?_);show wpAny _ _ (seqItems? (.ref l)>>=_) _ _ _;refine wX (wpAny_seqItems g2 d2 ?_);simp only[hv,Int.toNat_natCast];refine wX (wpAny_setField g1 d1 (by simp) (wY ⟨v,rfl,wY (k _ ?_ (vW ..))⟩));exact⟨_,Heap.get?_update_self _ g1 (Obj.isFreed_of_fields (Obj.data_mapFields d1 _)),(Obj.cls_mapFields ..).trans c1,by rw[Obj.data_mapFields d1];simp[rawInt]⟩
theorem tJ (hA:A.handled=none)(st:s.heap.IsTupleIter it l i)(ht:s.heap.IsTuple l am)(hv:am[i]? = none)
  (k:∀h' x,Heap.ExtBut it s.heap h'->(∃o,h'.get? x=some o/\o.cls=.type "StopIteration")->E (.ref x) { s with heap:=h' }):wpAny (model prog w) A (Builtin.SmallTypes.nextOf (.ref it)) Q E s:=by
 obtain⟨o1,g1,c1,d1⟩:=id st;obtain⟨o2,g2,_,n2,d2⟩:=ht;unfold Builtin.SmallTypes.nextOf;refine wX (wpAny_callSpecial?_slot (name:=Str.ofString "__next__") st.typeIs PySem.F.slot_tuple_iterator_next (wpAny_call_entry PySem.F.slot_tuple_iterator_next st.typeIs PySem.F.entry_tuple_iterator_next ?_ (PySem.F.args_tuple_iterator_next_1 _)));show wpAny _ _ (field (.ref it) 0>>=_) _ _ _;refine wX (wpAny_field g1 d1 (x:=.ref l) rfl ?_);show wpAny _ _ (if(Value.ref l == Value.none)=true then _ else _) _ _ _;rw[if_neg (λz=>uX z:¬((Value.ref l == Value.none)=true))];show wpAny _ _ (field (.ref it) 1>>=_) _ _ _;refine wX (wpAny_field g1 d1 (x:=.int i 0) rfl ?_);show wpAny _ _ (seqItems? (.ref l)>>=_) _ _ _;refine wX (wpAny_seqItems g2 d2 ?_);simp only[hv,Int.toNat_natCast];refine wX (wpAny_rule (wX (wpAny_setField g1 d1 (by simp) ?_)));show wpAny _ _ (newExc (.type "StopIteration") []>>=_) _ _ _;refine wX ?_;simp only[newTuple,newExc];refine wX (wpAny_newObj_type ?_ (by size_fits));refine wX (m:=firstArgMember _ _) (wpAny_of_eq (a:=Value.none) (by first|(simp only[firstArgMember];rfl)|rfl) ?_);refine wpAny_newObj_type ?_ (by size_fits);simp only[raiseNew];refine wX (wpAny_handled ?_);first|rw[hA]|rw[show A.in1.handled=none from hA]
 exact wX (wY (wpAny_throw (k _ _ (((vW ..).extBut.push _).push _) ⟨_,vY _ rfl,rfl⟩)))
end
def iC:Bool->Heap->Addr->Addr->Nat->Prop
 |true,h,it,a,i=>h.IsListIter it a i
 |false,h,it,a,i=>h.IsTupleIter it a i
def iq:Bool->Heap->Addr->Array Value->Prop
 |true,h,a,am=>h.IsList a am
 |false,h,a,am=>h.IsTuple a am
def j6 (k:Bool)(K:Frag)(H:Hp)(a:Addr)(xs:List V):Prop:=match k with|true=>fZ K H a xs|false=>gb K H a xs
theorem iC.ob (st:iC k h it a i):∃o,h.get? it=some o/\∀v,o.data≠.cell v:=by
 cases k<;>(obtain⟨o,g,_,d⟩:=st;exact⟨o,g,λv z=>by rw[d]at z;cases z⟩)
theorem iC.upon (st:iC k h it a i)(g:∀o,h.get? it=some o->h'.get? it=some o):iC k h' it a i:=by
 cases k<;>(obtain⟨o,e,r⟩:=st;exact⟨o,g o e,r⟩)
theorem iq.upon (st:iq k h a am)(g:∀o,h.get? a=some o->h'.get? a=some o):iq k h' a am:=by
 cases k<;>(obtain⟨o,e,r⟩:=st;exact⟨o,g o e,r⟩)
theorem iq.lt (st:iq k h a am):a<h.objs.size:=by
 cases k<;>(obtain⟨o,e,r⟩:=st;exact vX e)
theorem j6.same {k:Bool}{K:Frag}{H H':Hp}{a:Addr}{xs:List V}(h:j6 k K H a xs)(e:aO H H'):j6 k K H' a xs:=by
 cases k
 ·exact bg e h
 ·exact e.seq h
theorem j6.vals (I:Inv X ac σ H s)(h:j6 k X.K H a xs):∃its:List Value,aT xs its/\iq k s.heap a its.toArray/\xs.length<=sizeLine:=by
 cases k
 ·exact I.tuple h
 ·obtain⟨its,r,p,z⟩:=I.list h;exact⟨its,r,p.isList,z⟩
theorem j6.inj (I:Inv X ac σ H s)(h:j6 k X.K H a xs)(h':j6 k X.K H a ys):xs=ys:=by
 cases k
 ·exact I.tuple_inj h h'
 ·exact I.list_inj h h'
section
variable {prog:Program}{w:World}{A:Around}{E:Value->Shared->Prop}{s:Shared}
theorem em (st:iC k s.heap it l i)(ht:iq k s.heap l am)(hv:am[i]? = some v)
  (q:∀h',iC k h' it l (i+1)->Heap.SameBut it s.heap h'->Q v { s with heap:=h' }):wpAny (model prog w) A (Builtin.SmallTypes.nextOf (.ref it)) Q E s:=by
 cases k
 ·exact qG st ht hv q
 ·exact wpAny_nextOf_list_item st ht hv q
theorem iN (hA:A.handled=none)(st:iC k s.heap it l i)(ht:iq k s.heap l am)(hv:am[i]? = none)
  (q:∀h' x,Heap.ExtBut it s.heap h'->(∃o,h'.get? x=some o/\o.cls=.type "StopIteration")->E (.ref x) { s with heap:=h' }):wpAny (model prog w) A (Builtin.SmallTypes.nextOf (.ref it)) Q E s:=by
 cases k
 ·exact tJ hA st ht hv q
 ·exact wpAny_nextOf_list_end hA st ht hv q
end
noncomputable def FD (k:Bool)(l:Addr):Obj:={ cls:=.type (if k=true then "list_iterator" else "tuple_iterator"),data:=.fields #[.ref l,.int 0 0] }
theorem sg (ht:iq k s.heap l am)
  (q:Q (.ref s.heap.objs.size) { s with heap:=s.heap.push (FD k l) }):wpAny (model prog w) A (pyIter (.ref l)) Q E s:=by
 cases k
 ·exact wpAny_pyIter_tuple ht q
 ·exact wpAny_pyIter_list ht q
theorem iq.push (st:iq k h a am)(o:Obj):iq k (h.push o) a am:=st.upon λ_ e=>vZ _ e
section
variable (k1 k2:Bool) (h:Heap) (l1 l2:Addr)
abbrev zA:Heap:=h.push (FD k1 l1)
abbrev zB:Heap:=(zA k1 h l1).push (FD k2 l2)
abbrev zC:Heap:=(zB k1 k2 h l1 l2).push { cls:=.type "tuple",data:=.seq #[.ref h.objs.size,.ref (zA k1 h l1).objs.size] }
abbrev zD:Heap:=(zC k1 k2 h l1 l2).push { cls:=.type "tuple",data:=.seq #[.none,.none] }
abbrev zE:Heap:=(zD k1 k2 h l1 l2).push { cls:=.type "zip",data:=.fields #[.none,.bool false,.bool false,.ref (zB k1 k2 h l1 l2).objs.size,.ref (zC k1 k2 h l1 l2).objs.size] }
end
theorem qH (k1 k2:Bool)(l1 l2:Addr)(xs ys:Array Value):Meets (Builtin.«zip.__new__» ⟨[.type "zip",.ref l1,.ref l2],[]⟩) (λ_ R s=>iq k1 s.heap l1 xs/\iq k2 s.heap l2 ys /\
   R (.ok (.ret (.ref (zD k1 k2 s.heap l1 l2).objs.size))) { s with heap:=zE k1 k2 s.heap l1 l2 }) :=
 .of_wp λprog w A R s hs=>by
  obtain⟨hp,g,d,tk,os⟩:=s;obtain⟨q1,q2,hs⟩:=hs;have xA:=sub_zip;have p1:iq k1 (Shared.heap ⟨hp,g,d,tk,os⟩) l1 xs:=q1;have p2:iq k2 (Shared.heap ⟨hp.push (FD k1 l1),g,d,tk,os⟩) l2 ys:=iq.push q2 _;wp_walk using sg p1,sg p2;exact⟨_,rfl,hs⟩
section
variable {prog:Program}{w:World}{A:Around}{E:Value->Shared->Prop}{s:Shared}
theorem si (q1:iq k1 s.heap l1 xs)(q2:iq k2 s.heap l2 ys)
  (q:∀h',IsZip h' (s.heap.objs.size+4) (s.heap.objs.size+2) (s.heap.objs.size+3) .none->IsPair h' (s.heap.objs.size+2) (.ref s.heap.objs.size) (.ref (s.heap.objs.size+1))->IsPair h' (s.heap.objs.size+3) .none .none ->
   iC k1 h' s.heap.objs.size l1 0->iC k2 h' (s.heap.objs.size+1) l2 0->(∀c o,s.heap.get? c=some o->h'.get? c=some o)->Q (.ref (s.heap.objs.size+4)) { s with heap:=h' }):
  wpAny (model prog w) A (call (.type "zip") [.ref l1,.ref l2]) Q E s:=by
 refine callType_new PySem.F.called_zip (by decide) (PySem.F.typeCall_zip_2 _ _) (PySem.F.newCall_zip_2 _ _) (λobj=>PySem.F.args_object_init_3 obj _ _) PySem.F.entry_zip_new (qH k1 k2 l1 l2 xs ys) ⟨q1,q2,?_⟩;have n1:(zA k1 s.heap l1).objs.size=s.heap.objs.size+1:=Heap.size_push ..;have n2:(zB k1 k2 s.heap l1 l2).objs.size=s.heap.objs.size+2:=by rw[Heap.size_push,n1]
 have n3:(zC k1 k2 s.heap l1 l2).objs.size=s.heap.objs.size+3:=by rw[Heap.size_push,n2]
 have n4:(zD k1 k2 s.heap l1 l2).objs.size=s.heap.objs.size+4:=by rw[Heap.size_push,n3]
 have u5:∀ {c o},(zD k1 k2 s.heap l1 l2).get? c=some o->(zE k1 k2 s.heap l1 l2).get? c=some o:=λe=>vZ _ e;have u4:∀ {c o},(zC k1 k2 s.heap l1 l2).get? c=some o->(zE k1 k2 s.heap l1 l2).get? c=some o:=λe=>u5 (vZ _ e);have u3:∀ {c o},(zB k1 k2 s.heap l1 l2).get? c=some o->(zE k1 k2 s.heap l1 l2).get? c=some o:=λe=>u4 (vZ _ e);have u2:∀ {c o},(zA k1 s.heap l1).get? c=some o->(zE k1 k2 s.heap l1 l2).get? c=some o:=λe=>u3 (vZ _ e);have u1:∀ {c o},s.heap.get? c=some o->(zE k1 k2 s.heap l1 l2).get? c=some o:=λe=>u2 (vZ _ e);have g5:(zE k1 k2 s.heap l1 l2).get? (zD k1 k2 s.heap l1 l2).objs.size=some _:=vY _ rfl;have g4:(zE k1 k2 s.heap l1 l2).get? (zC k1 k2 s.heap l1 l2).objs.size=some _:=u5 (vY _ rfl);have g3:(zE k1 k2 s.heap l1 l2).get? (zB k1 k2 s.heap l1 l2).objs.size=some _:=u4 (vY _ rfl);have g2:(zE k1 k2 s.heap l1 l2).get? (zA k1 s.heap l1).objs.size=some _:=u3 (vY _ (by cases k2<;>rfl))
 have g1:(zE k1 k2 s.heap l1 l2).get? s.heap.objs.size=some _:=u2 (vY _ (by cases k1<;>rfl))
 rw[n2,n3,n4]at g5;rw[n1,n2]at g3;rw[n3]at g4;rw[n1]at g2;show _/\_;rw[n4];refine⟨⟨_,g5,rfl⟩,q _ g5 g3 g4 ?_ ?_ λc o e=>u1 e⟩
 ·cases k1<;>exact⟨_,g1,rfl,rfl⟩
 ·cases k2<;>exact⟨_,g2,rfl,rfl⟩
structure ZApart (z TI TO i1 i2:Addr):Prop where
 tz:TI≠z
 oz:TO≠z
 az:i1≠z
 bz:i2≠z
 oa:TO≠i1
 ob:TO≠i2
 to:TI≠TO
 ta:TI≠i1
 tb:TI≠i2
 ab:i1≠i2
theorem oV {k1 k2:Bool}{z TI TO i1 i2 l1 l2:Addr}{j:Nat}{xs ys:Array Value}{x y a b:Value}{Q:Value->Shared->Prop}(D:ZApart z TI TO i1 i2)(m1:l1≠z/\l1≠TO/\l1≠i1)(m2:l2≠z/\l2≠TO/\l2≠i1/\l2≠i2)
  (hz:IsZip s.heap z TI TO .none) (hI:IsPair s.heap TI (.ref i1) (.ref i2)) (hO:IsPair s.heap TO a b) (t1:iC k1 s.heap i1 l1 j) (t2:iC k2 s.heap i2 l2 j) (q1:iq k1 s.heap l1 xs) (q2:iq k2 s.heap l2 ys) (hx:xs[j]? = some x) (hy:ys[j]? = some y)
  (q:∀h',IsZip h' z TI TO (rawInt s.heap.objs.size)->IsPair h' TO x y->iC k1 h' i1 l1 (j+1)->iC k2 h' i2 l2 (j+1)->IsPair h' s.heap.objs.size x y->h'.objs.size=s.heap.objs.size+1 ->
   (∀c o,c≠z->c≠TO->c≠i1->c≠i2->s.heap.get? c=some o->h'.get? c=some o)->Q (.ref s.heap.objs.size) { s with heap:=h' }):
  wpAny (model prog w) A (Builtin.«zip.__next__» ⟨[.ref z],[]⟩) (λg0 s'=>∃v,g0=.done (.ret v)/\Q v s') E s:=by
 show wpAny _ _ (field (.ref z) 2>>=_) _ _ s;refine wX (wpAny_field hz rfl (x:=.bool false) rfl ?_);show wpAny _ _ (field (.ref z) 3>>=_) _ _ s;refine wX (wpAny_field hz rfl (x:=.ref TI) rfl (wX (wpAny_seqItems hI rfl ?_)));show wpAny _ _ (Builtin.SmallTypes.ownedTupleIsFree (.ref z)>>=_) _ _ s;refine wX ?_;unfold Builtin.SmallTypes.ownedTupleIsFree;refine wX (wpAny_field hz rfl (x:=.none) rfl (wY ?_));simp only[if_true];refine wX (wpAny_rule (wX (wpAny_field hz rfl (x:=.ref TO) rfl (wX (wpAny_setField_rec hz (by simp) λg1 hz1 s1=>?_)))));replace hz1:IsZip g1 z TI TO .ellipsis:=hz1;refine wX ?_;simp only[List.forIn_cons,List.forIn_nil,List.zipIdx_cons,List.zipIdx_nil];refine wX (wX (wpAny_onRaise ?_));show wpAny _ _ (Builtin.SmallTypes.nextOf (.ref i1)>>=_) _ _ { s with heap:=g1 };refine wX (em (s:={ s with heap:=g1 }) (t1.upon λo e=>s1.extBut _ _ D.az e) (q1.upon λo e=>s1.extBut _ _ m1.1 e) hx λg2 t12 s2=>wY ?_);have ET:IsPair g2 TO a b:=s2.extBut _ _ D.oa (s1.extBut _ _ D.oz hO);refine wX (wpAny_seqItems ET rfl (wX (wpAny_updateSeq_pair ET λg3 hO3 s3=>?_)));replace hO3:IsPair g3 TO x b:=hO3;refine wX (wpAny_letGo (wY (wX (wX (wpAny_onRaise ?_)))));show wpAny _ _ (Builtin.SmallTypes.nextOf (.ref i2)>>=_) _ _ { s with heap:=g3 };have Cn:∀ {c o},c≠z->c≠TO->c≠i1->s.heap.get? c=some o->g3.get? c=some o:=λc1 c2 c3 e=>s3.extBut _ _ c2 (s2.extBut _ _ c3 (s1.extBut _ _ c1 e));refine wX (em (s:={ s with heap:=g3 }) (t2.upon λo e=>Cn D.bz D.ob.symm D.ab.symm e) (q2.upon λo e=>Cn m2.1 m2.2.1 m2.2.2.1 e) hy λg4 t24 s4=>wY ?_);have Jp:IsPair g4 TO x b:=s4.extBut _ _ D.ob hO3;refine wX (wpAny_seqItems Jp rfl (wX (wpAny_updateSeq_pair Jp λg5 hO5 s5=>?_)));replace hO5:IsPair g5 TO x y:=hO5;refine wX (wpAny_letGo (wY (wY (wX (wpAny_seqItems hO5 rfl (wX (wpAny_newTuple ?_)))))));have sz:g5.objs.size=s.heap.objs.size:=by rw[s5.1,s4.1,s3.1,s2.1,s1.1]
 have Ll:∀c o,c≠z->c≠TO->c≠i1->c≠i2->s.heap.get? c=some o->g5.get? c=some o:=λc o c1 c2 c3 c4 e=>s5.extBut _ _ c2 (s4.extBut _ _ c4 (Cn c1 c2 c3 e));have Jq:IsZip g5 z TI TO .ellipsis:=s5.extBut _ _ D.oz.symm (s4.extBut _ _ D.bz.symm (s3.extBut _ _ D.oz.symm (s2.extBut _ _ D.az.symm hz1)));have Lm:iC k1 g5 i1 l1 (j+1):=t12.upon λo e=>s5.extBut _ _ D.oa.symm (s4.extBut _ _ D.ab (s3.extBut _ _ D.oa.symm e));have Ln:iC k2 g5 i2 l2 (j+1):=t24.upon λo e=>s5.extBut _ _ D.ob.symm e;have Jr:z<g5.objs.size:=vX Jq;show wpAny _ _ (Builtin.SmallTypes.ownedTupleHandOut (.ref z) (.ref g5.objs.size)>>=_) _ _ { s with heap:=g5.push { cls:=.type "tuple",data:=.seq #[x,y] } };refine wX ?_;unfold Builtin.SmallTypes.ownedTupleHandOut;have Lo:IsZip (g5.push { cls:=.type "tuple",data:=.seq #[x,y] }) z TI TO .ellipsis:=vZ _ Jq;refine wX (wpAny_setField_rec Lo (by simp) λg7 hz7 s7=>?_);replace hz7:IsZip g7 z TI TO (rawInt g5.objs.size):=hz7;refine wpAny_setField_rec hz7 (by simp) λg8 hz8 s8=>?_;replace hz8:IsZip g8 z TI TO (rawInt g5.objs.size):=hz8;have Gb:∀c o,c≠z->g5.get? c=some o->g8.get? c=some o:=λc o c1 e=>s8.extBut _ _ c1 (s7.extBut _ _ c1 (vZ _ e));have Js:IsPair g8 g5.objs.size x y:=s8.extBut _ _ (Nat.ne_of_gt Jr) (s7.extBut _ _ (Nat.ne_of_gt Jr) (vY _ rfl));have Jt:g8.objs.size=g5.objs.size+1:=by rw[s8.1,s7.1,Heap.size_push]
 rw[sz]at hz8 Js Jt;refine wY ⟨_,rfl,?_⟩;show Q (.ref g5.objs.size) _;rw[sz];exact q g8 hz8 (Gb _ _ D.oz hO5) (Lm.upon λo e=>Gb _ o D.az e) (Ln.upon λo e=>Gb _ o D.bz e) Js Jt λc o c1 c2 c3 c4 e=>Gb c o c1 (Ll c o c1 c2 c3 c4 e)
end
section
variable {prog:Program}{w:World}{A:Around}{E:Value->Shared->Prop}{s:Shared}
theorem sj {k1 k2:Bool}{z TI TO i1 i2 l1 l2:Addr}{j:Nat}{xs ys:Array Value}{a b:Value}{Q:PySem.Fin->Shared->Prop}(hA:A.handled=none)(D:ZApart z TI TO i1 i2)(m1:l1≠z/\l1≠TO/\l1≠i1)(m2:l2≠z/\l2≠TO/\l2≠i1/\l2≠i2)
  (hz:IsZip s.heap z TI TO .none) (hI:IsPair s.heap TI (.ref i1) (.ref i2)) (hO:IsPair s.heap TO a b) (t1:iC k1 s.heap i1 l1 j) (t2:iC k2 s.heap i2 l2 j) (q1:iq k1 s.heap l1 xs) (q2:iq k2 s.heap l2 ys) (he:xs[j]? = none∨ys[j]? = none)
  (q:∀h' x,(∀c o,c≠z->c≠TO->c≠i1->c≠i2->s.heap.get? c=some o->h'.get? c=some o)->(∃o,h'.get? x=some o/\o.cls=.type "StopIteration")->E (.ref x) { s with heap:=h' }):
  wpAny (model prog w) A (Builtin.«zip.__next__» ⟨[.ref z],[]⟩) Q E s:=by
 show wpAny _ _ (field (.ref z) 2>>=_) _ _ s;refine wX (wpAny_field hz rfl (x:=.bool false) rfl ?_);show wpAny _ _ (field (.ref z) 3>>=_) _ _ s;refine wX (wpAny_field hz rfl (x:=.ref TI) rfl (wX (wpAny_seqItems hI rfl ?_)));show wpAny _ _ (Builtin.SmallTypes.ownedTupleIsFree (.ref z)>>=_) _ _ s;refine wX ?_;unfold Builtin.SmallTypes.ownedTupleIsFree;refine wX (wpAny_field hz rfl (x:=.none) rfl (wY ?_));simp only[if_true];refine wX (wpAny_rule (wX (wpAny_field hz rfl (x:=.ref TO) rfl (wX (wpAny_setField_rec hz (by simp) λg1 hz1 s1=>?_)))));replace hz1:IsZip g1 z TI TO .ellipsis:=hz1;refine wX ?_;simp only[List.forIn_cons,List.forIn_nil,List.zipIdx_cons,List.zipIdx_nil];refine wX (wX (wpAny_onRaise ?_));show wpAny _ _ (Builtin.SmallTypes.nextOf (.ref i1)>>=_) _ _ { s with heap:=g1 };cases hx:xs[j]? with
 |none=>
  refine wX (iN (s:={ s with heap:=g1 }) hA (t1.upon λo e=>s1.extBut _ _ D.az e) (q1.upon λo e=>s1.extBut _ _ m1.1 e) hx λg2 x s2 hX=>?_);obtain⟨oU,eX,cX⟩:=hX;have Gc:IsZip g2 z TI TO .ellipsis:=s2 _ _ D.az.symm hz1;have nz:x≠z:=λz'=>by subst z';rw[Gc]at eX;cases eX;simp at cX
  exact wpAny_setField_rec Gc (by simp) λg3 _ s3=>q g3 x (λc o c1 _ c3 _ e=>s3.extBut _ _ c1 (s2 _ _ c3 (s1.extBut _ _ c1 e))) ⟨oU,s3.extBut _ _ nz eX,cX⟩
 |some v=>
  have hy:ys[j]? = none:=by
   rcases he with h|h
   ·rw[hx]at h;cases h
   ·exact h
  refine wX (em (s:={ s with heap:=g1 }) (t1.upon λo e=>s1.extBut _ _ D.az e) (q1.upon λo e=>s1.extBut _ _ m1.1 e) hx λg2 t12 s2=>wY ?_);have ET:IsPair g2 TO a b:=s2.extBut _ _ D.oa (s1.extBut _ _ D.oz hO);refine wX (wpAny_seqItems ET rfl (wX (wpAny_updateSeq_pair ET λg3 hO3 s3=>?_)));refine wX (wpAny_letGo (wY (wX (wX (wpAny_onRaise ?_)))));show wpAny _ _ (Builtin.SmallTypes.nextOf (.ref i2)>>=_) _ _ { s with heap:=g3 };have Cn:∀ {c o},c≠z->c≠TO->c≠i1->s.heap.get? c=some o->g3.get? c=some o:=λc1 c2 c3 e=>s3.extBut _ _ c2 (s2.extBut _ _ c3 (s1.extBut _ _ c1 e));refine wX (iN (s:={ s with heap:=g3 }) hA (t2.upon λo e=>Cn D.bz D.ob.symm D.ab.symm e) (q2.upon λo e=>Cn m2.1 m2.2.1 m2.2.2.1 e) hy λg4 x s4 hX=>?_);obtain⟨oU,eX,cX⟩:=hX;have Ju:IsZip g4 z TI TO .ellipsis:=s4 _ _ D.bz.symm (s3.extBut _ _ D.oz.symm (s2.extBut _ _ D.az.symm hz1));have nz:x≠z:=λz'=>by subst z';rw[Ju]at eX;cases eX;simp at cX
  exact wpAny_setField_rec Ju (by simp) λg5 _ s5=>q g5 x (λc o c1 c2 c3 c4 e=>s5.extBut _ _ c1 (s4 _ _ c4 (Cn c1 c2 c3 e))) ⟨oU,s5.extBut _ _ nz eX,cX⟩
end
theorem nG {X:Cx}{ac:List (Addr×Obj)}{σ:St}{H:Hp}{s:Shared}{h':Heap}{t':Nat}{ch:List Addr}(I:Inv X ac σ H s)(f:∀b∈ch,iI X ac H b)(k:∀b o,b∉ch->s.heap.get? b=some o->h'.get? b=some o):Inv X ac σ H { s with heap:=h',toks:=t' }:=by
 have A6:∀b u,H b=some u->b∉ch:=λb u e z=>by rw[(f b z).1]at e;cases e
 refine I.step (g':=s.gens) (d':=s.drawn) (ch:=ch) (λb hb=>?_) (λb o _ _ hc e _=>k b o hc e) (λb o _ _ hc e _=>⟨o.slots,k b o hc e⟩) (λ_ _ _ _ n=>n)
  (λb o hc e=>⟨o,k b o hc e⟩) (λ_ _ e=>e) (λ_ _ _ e=>e) (λ_ _ e=>e) (λm hm=>?_) (λb u e=>?_) I.bare
 ·obtain⟨_,f1,_,f3,f4,f5⟩:=f b hb;exact⟨f3,f1,f4,f5⟩
 ·obtain⟨o,es,ep,ho,r⟩:=hm;exact⟨o,es,ep,k _ o (λz=>(f _ z).2.1 rfl) ho,r⟩
 ·refine(I.hok b u e).stay (λc v hc q=>k c v ?_ q) (λ_ q=>q) (λ_ _ q=>q) λ_ _ _ q=>q;rcases hc with z|z
  ·rw[z];exact A6 b u e
  ·exact A6 c _ z
theorem Am {X:Cx}{ac:List (Addr×Obj)}{σ:St}{H:Hp}{s:Shared}{h':Heap}{t':Nat}{ch:List Addr}{a:Addr}{ob:HO}(I:Inv X ac σ H s)(f:∀b∈ch,iI X ac H b)(k:∀b o,b∉ch->s.heap.get? b=some o->h'.get? b=some o)(ha:s.heap.objs.size<=a)
  (new:bC X.prog X.w (upd H a ob) h' a ob):Inv X ac σ (upd H a ob) { s with heap:=h',toks:=t' }:=by
 have hn:H a=none:=I.hok.fresh ha;have A6:∀b u,H b=some u->b∉ch:=λb u e z=>by rw[(f b z).1]at e;cases e
 have na:∀b o,s.heap.get? b=some o->b≠a:=λb o e=>vS (vQ (vX e) ha);refine I.step (g':=s.gens) (d':=s.drawn) (ch:=ch) (λb hb=>?_) (λb o _ _ hc e _=>k b o hc e) (λb o _ _ hc e _=>⟨o.slots,k b o hc e⟩) (λb o _ e n=>by rw[au (na b o e)];exact n)
  (λb o hc e=>⟨o,k b o hc e⟩) (λb xs e=>by rw[au (aP e hn)];exact e) (λb o u e=>by rw[au (aP e hn)];exact e) (λb ps e=>by rw[au (aP e hn)];exact e) (λm hm=>?_) (λb u e=>?_) I.bare
 ·obtain⟨_,f1,_,f3,f4,f5⟩:=f b hb;exact⟨f3,f1,f4,f5⟩
 ·obtain⟨o,es,ep,ho,r⟩:=hm;exact⟨o,es,ep,k _ o (λz=>(f _ z).2.1 rfl) ho,r⟩
 ·by_cases hb:b=a
  ·subst hb;rw[aw]at e;cases e;exact new
  ·rw[au hb]at e;refine(I.hok b u e).stay (λc v hc q=>k c v ?_ q) (λc q=>?_) (λc xs q=>?_) λc o xs q=>?_
   ·rcases hc with z|z
    ·rw[z];exact A6 b u e
    ·exact A6 c _ z
   ·rw[au (aP q hn)];exact q
   ·rw[au (aP q hn)];exact q
   ·rw[au (aP q hn)];exact q
noncomputable def GJ (K:Frag)(k1 k2:Bool)(a1 a2:Addr):It :=
  ⟨λi H=>∃xs ys x y,j6 k1 K H a1 xs/\j6 k2 K H a2 ys/\xs[i]? = some x/\ys[i]? = some y,
   λi H v H'=>∃T x y,v=.ref T/\H T=none/\H'=upd H T (.tup [x,y])/\(∀xs,j6 k1 K H a1 xs->xs[i]? = some x)/\(∀ys,j6 k2 K H a2 ys->ys[i]? = some y),
   λi H=>∃xs ys,j6 k1 K H a1 xs/\j6 k2 K H a2 ys/\(xs.length<=i∨ys.length<=i)⟩
theorem vE {P:Program}{w:World}{K:Frag}{es:List Expr}{kt:Nat}{pt:Pos}{k1 k2:Bool}{a1 a2 z TI TO i1 i2:Addr}(D:ZApart z TI TO i1 i2)(m1:a1≠z/\a1≠TO/\a1≠i1)(m2:a2≠z/\a2≠TO/\a2≠i1/\a2≠i2):
  Turn P w K (.Tuple es kt pt) (GJ K k1 k2 a1 a2) [z,TI,TO,i1,i2] z (λi h=>IsZip h z TI TO .none/\IsPair h TI (.ref i1) (.ref i2)/\(∃a b,IsPair h TO a b)/\iC k1 h i1 a1 i/\iC k2 h i2 a2 i) where
 mem:=by simp
 obj:=λi h st b hb=>by
  obtain⟨hz,hI,⟨a,c,hO⟩,t1,t2⟩:=st;simp at hb;rcases hb with rfl|rfl|rfl|rfl|rfl
  ·exact⟨_,hz,λv z=>by cases z⟩
  ·exact⟨_,hI,λv z=>by cases z⟩
  ·exact⟨_,hO,λv z=>by cases z⟩
  ·exact t1.ob
  ·exact t2.ob
 keep:=λi h h' st k=>by
  obtain⟨hz,hI,⟨a,c,hO⟩,t1,t2⟩:=st;exact⟨k z (by simp) _ hz,k TI (by simp) _ hI,⟨a,c,k TO (by simp) _ hO⟩,t1.upon λo e=>k i1 (by simp) o e,t2.upon λo e=>k i2 (by simp) o e⟩
 item:=by
  intro X hP hw hK hc i ac s σ H E I hf st hg;subst hP hw hK;obtain⟨hz,hI,⟨a,c,hO⟩,t1,t2⟩:=st;obtain⟨xs,ys,x,y,q1,q2,hx,hy⟩:=hg;obtain⟨its,r1,p1,z1⟩:=q1.vals I;obtain⟨lT,r2,p2,z2⟩:=q2.vals I;obtain⟨u,hu,ru⟩:=r1.get hx;obtain⟨v,hv,rv⟩:=r2.get hy;have hT:s.TypeIs (.ref z) "zip":=⟨_,hz,rfl⟩;have fresh:H s.heap.objs.size=none:=I.hok.fresh (vT _);have lt:∀ {c o},s.heap.get? c=some o->c≠s.heap.objs.size:=λe=>vS (vX e);have l1:i1≠s.heap.objs.size:=by obtain⟨o,e,_⟩:=t1.ob;exact lt e
  have l2:i2≠s.heap.objs.size:=by obtain⟨o,e,_⟩:=t2.ob;exact lt e
  unfold pyNext;refine wX (wpAny_attempt (wpAny_callSpecial?_slot (name:=Str.ofString "__next__") hT PySem.F.slot_zip_next (wpAny_call_entry PySem.F.slot_zip_next hT PySem.F.entry_zip_next (oV D m1 m2 hz hI hO t1 t2 p1 p2 (by simpa using hu) (by simpa using hv) λh' b1 b2 b3 b4 b5 b6 bk=>wY ?_) (PySem.F.args_zip_next_1 _))));refine⟨_,rfl,wpAny_letOwnedTupleGo_zip (s:={ s with heap:=h' }) b1 λh2 c1 s2=>?_⟩;have CO:Heap.SameBut z h' h2:=s2;have kk:∀b o,b∉[z,TI,TO,i1,i2]->s.heap.get? b=some o->h2.get? b=some o:=λb o hb e=>
   CO.extBut _ _ (λq=>hb (by simp[q])) (bk b o (λq=>hb (by simp[q])) (λq=>hb (by simp[q])) (λq=>hb (by simp[q])) (λq=>hb (by simp[q])) e)
  have I1:Inv X ac σ H { s with heap:=h2 }:=nG (t':=s.toks) I hf kk;have zT:s.heap.objs.size≠z:=(lt hz).symm;have new:bC X.prog X.w (upd H s.heap.objs.size (.tup [x,y])) h2 s.heap.objs.size (.tup [x,y]):=⟨by show 2<=sizeLine;decide,[u,v],.cons ru (.cons rv .nil),⟨_,CO.extBut _ _ zT b5,rfl,_,rfl⟩⟩;refine⟨.ref s.heap.objs.size,upd H s.heap.objs.size (.tup [x,y]),?_,rfl,⟨_,x,y,rfl,fresh,rfl,λzs hq=>by rw[j6.inj I hq q1];exact hx,λzs hq=>by rw[j6.inj I hq q2];exact hy⟩,?_,λb hb=>?_⟩
  ·exact Am (s:=s) (t':=s.toks) I hf kk (vT _) new
  ·exact⟨c1,CO.extBut _ _ D.tz (bk _ _ D.tz D.to D.ta D.tb hI),⟨_,_,CO.extBut _ _ D.oz b2⟩,b3.upon λo e=>CO.extBut _ _ D.az e,b4.upon λo e=>CO.extBut _ _ D.bz e⟩
  ·have xO:b≠s.heap.objs.size:=by
    simp at hb;rcases hb with rfl|rfl|rfl|rfl|rfl
    ·exact lt hz
    ·exact lt hI
    ·exact lt hO
    ·exact l1
    ·exact l2
   rw[au xO];exact(hf b hb).1
 done:=by
  intro X hP hw hK hc i ac s σ H E I hf st hg;subst hP hw hK;obtain⟨hz,hI,⟨a,c,hO⟩,t1,t2⟩:=st;obtain⟨xs,ys,q1,q2,hl⟩:=hg;obtain⟨its,r1,p1,z1⟩:=q1.vals I;obtain⟨lT,r2,p2,z2⟩:=q2.vals I;have hT:s.TypeIs (.ref z) "zip":=⟨_,hz,rfl⟩;have n1:=r1.length;have n2:=r2.length;unfold pyNext;refine wX (wpAny_attempt (wpAny_callSpecial?_slot (name:=Str.ofString "__next__") hT PySem.F.slot_zip_next (wpAny_call_entry PySem.F.slot_zip_next hT PySem.F.entry_zip_next (sj (I.ok.hd hc) D m1 m2 hz hI hO t1 t2 p1 p2 (hl.imp (λq=>by simp;omega) λq=>by simp;omega) λh' x hk hX=>?_) (PySem.F.args_zip_next_1 _))));obtain⟨o,eo,co⟩:=hX;refine wX (wpAny_isInstance (T:="StopIteration") (b:=true) ⟨o,eo,co⟩ isSubtype_stop (wY ⟨rfl,?_⟩));exact nG (t':=s.toks) I hf λb o hb e=>hk b o (λq=>hb (by simp[q])) (λq=>hb (by simp[q])) (λq=>hb (by simp[q])) (λq=>hb (by simp[q])) e
 self:=λ_ _ _ _ _ st h=>wpAny_pyIter_zip st.1 h
section
variable {X:Cx}{a b e:Expr}{pos:Pos}{p:Pos}
theorem An:bootBuiltins "zip" = some (.type "zip"):=by decide +kernel
def DS (K:Frag)(ta:TA):TI:=λσ H R=>ta σ H λvs H1=>∃(k1 k2:Bool)(l1 l2:Addr)(xs ys:List V),vs=[.ref l1,.ref l2]/\j6 k1 K H1 l1 xs/\j6 k2 K H1 l2 ys/\R (GJ K k1 k2 l1 l2) H1
theorem BB {es:List Expr}{kt:Nat}{pt:Pos}{ta:TA}(hg:Gl X "zip")(hm:X.mg "zip" = none)(ha:PA X [a,b] ta)(hs:starEach [a,b] X.env=[(false,eval a X.env),(false,eval b X.env)]:=by rfl)(lE:starEach [b] X.env=[(false,eval b X.env)]:=by rfl):
  PI X (.Tuple es kt pt) (.Call (.Name "zip" p) [a,b] [] pos) (DS X.K ta):=by
 intro ac s σ H R I h;refine Call_ (g6 I hg hm An (PyProof.Rows.callWith_type1 (bX (ha pos ac s σ H _ I h) λus s1 ⟨vs,H1,I1,r1,q1⟩=>?_) (by rw[hs,lE]) (by rw[lE];rfl)));obtain⟨k1,k2,l1,l2,xs,ys,rfl,h1,h2,q⟩:=q1;obtain⟨u1,u2,rfl,HE,HF⟩:=r1.two;cases HE
 cases HF
 obtain⟨its,v1,p1,z1⟩:=h1.vals I1;obtain⟨lT,v2,p2,z2⟩:=h2.vals I1;have zg:=p1.lt;have zG:=p2.lt;refine si p1 p2 λh' c1 c2 c3 c4 c5 ck=>?_;have D:ZApart (s1.heap.objs.size+4) (s1.heap.objs.size+2) (s1.heap.objs.size+3) s1.heap.objs.size (s1.heap.objs.size+1):=by
  constructor<;>(intro z;exact absurd z (by first|exact vS (Nat.add_lt_add_left (by decide) _)|exact Nat.ne_of_gt (Nat.add_lt_add_left (by decide) _)|exact vS (Nat.lt_add_of_pos_right (by decide))|exact Nat.ne_of_gt (Nat.lt_add_of_pos_right (by decide))))
 have nf:∀ {l:Addr}(n:Nat),l<s1.heap.objs.size->l≠s1.heap.objs.size+n:=λn hl=>vS (vQ hl (Nat.le_add_right _ n));refine wpAny_pyIter_zip c1 ⟨s1.heap.objs.size+4,[s1.heap.objs.size+4,s1.heap.objs.size+2,s1.heap.objs.size+3,s1.heap.objs.size,s1.heap.objs.size+1],_,_,H1,rfl,I1.kept (t':=s1.toks) ck,
  vE D ⟨nf 4 zg,nf 3 zg,nf 0 zg⟩ ⟨nf 4 zG,nf 3 zG,nf 0 zG,nf 1 zG⟩,⟨c1,c2,⟨_,_,c3⟩,c4,c5⟩,λb hb=>?_,q⟩
 have zH:s1.heap.objs.size<=b:=by
  simp at hb;rcases hb with rfl|rfl|rfl|rfl|rfl
  ·exact Nat.le_add_right _ 4
  ·exact Nat.le_add_right _ 2
  ·exact Nat.le_add_right _ 3
  ·exact vT _
  ·exact Nat.le_add_right _ 1
 exact I1.fpOk zH (I1.hok.fresh zH)
noncomputable def fz (xs ys:List D):List D:=List.zipWith (λx y=>.tup [x,y]) xs ys
@[simp] def vK (fa fb:FE):FA:=λρ=>(fa ρ).bind λx=>(fb ρ).bind λy=>(gm x.1).bind λxs=>(gm y.1).map λys=>fz xs ys
theorem oW {K:Frag}{B:Hp}{v:V}{d:D}{ds:List D}(h:Is K B v d)(e:gm d=some ds):∃k a vs,v=.ref a/\j6 k K B a vs/\IsL K B vs ds:=by
 cases h with
 |tup ht hl=>cases e;exact⟨false,_,_,rfl,ht,hl⟩
 |lst ht hl=>cases e;exact⟨true,_,_,rfl,ht,hl⟩
 |_=>cases e
theorem BC {H s}(I:Inv X ac σ H s)(h1:j6 k1 X.K N l1 vs)(i1:IsL X.K N vs ds)(h2:j6 k2 X.K N l2 ws)(i2:IsL X.K N ws es):lJ X.K (GJ X.K k1 k2 l1 l2) N (fz ds es):=by
 intro i H' sm;have n1:=i1.length;have n2:=i2.length;refine⟨λd ed=>?_,λhl=>⟨vs,ws,h1.same sm,h2.same sm,?_⟩⟩
 ·unfold fz at ed;rw[List.getElem?_zipWith]at ed;cases e1:ds[i]? with
  |none=>rw[e1]at ed;simp at ed
  |some x=>
   cases e2:es[i]? with
   |none=>rw[e1,e2]at ed;simp at ed
   |some y=>
    rw[e1,e2]at ed;simp at ed;subst ed;obtain⟨v,ev,iv⟩:=i1.get e1;obtain⟨w,ew,iw⟩:=i2.get e2;refine⟨⟨vs,ws,v,w,h1.same sm,h2.same sm,ev,ew⟩,λr H2 hy=>?_⟩;obtain⟨T,v',w',rfl,hT,rfl,f1,f2⟩:=hy;have e3:=f1 vs (h1.same sm);have e4:=f2 ws (h2.same sm);rw[ev]at e3;cases e3;rw[ew]at e4;cases e4;have xt:=Ext.laid (o:=.tup [v,w]) sm hT;exact⟨_,xt,.tup (gb.of aw) (.cons (iv.mono xt.bn) (.cons (iw.mono xt.bn) .nil))⟩
 ·unfold fz at hl;rw[List.length_zipWith]at hl;omega
theorem vM {es:List Expr}{kt:Nat}{pt:Pos}{fa fb:FE}(hm:X.mg "zip" = none)(ha:JE X a fa)(hb:JE X b fb)(hg:Gl X "zip":=by rfl)(hs:starEach [a,b] X.env=[(false,eval a X.env),(false,eval b X.env)]:=by rfl)(lE:starEach [b] X.env=[(false,eval b X.env)]:=by rfl):
  JI X (.Tuple es kt pt) (.Call (.Name "zip" p) [a,b] [] pos) (vK fa fb):=by
 intro ac s σ H R I q;refine BB hg hm (ag ha (ag hb ae lE) (by rw[hs,lE])) hs lE ac s σ H R I ?_;obtain⟨B,ρ,ds,sB,r,ee,q⟩:=q;obtain⟨x1,ex,ee⟩:=oX ee;obtain⟨y1,ey,ee⟩:=oX ee;obtain⟨xs,HG,ee⟩:=oX ee;obtain⟨ys,HH,ee⟩:=oY ee;subst ee;refine⟨B,ρ,[x1.1,y1.1],sB,r,by simp[aa,af,ex,ey],λvs H1 N1 xt i1=>?_⟩;cases i1 with
 |cons j1 j2=>
  cases j2 with
  |cons j2 j3=>
   cases j3
   obtain⟨k1,l1,us,rfl,s1,m1⟩:=oW j1 HG;obtain⟨k2,l2,ws,rfl,s2,m2⟩:=oW j2 HH;exact⟨k1,k2,l1,l2,us,ws,rfl,s1.same xt.nh,s2.same xt.nh,q _ H1 N1 xt (BC I s1 m1 s2 m2)⟩
end
@[simp] noncomputable def jp:FS:=λ_=>none
section
variable {X:Cx}{pos:Pos}
theorem oZ {st:Stmt}:JS X st jp:=λac s σ H E I q=>by
 obtain⟨B0,H0,ρ,r,_,e,_⟩:=q;cases e
end
inductive CRows (K:Frag)(P:Params):List DictEntry->List (Str×D)->Prop where
 |nil:CRows K P [] []
 |tup {x:Str}{t:Tok}{h:Int}{a:Addr}{its:Array Value}{n:Nat}{jy:Array (Option Value)}{ds:List D}{r:List DictEntry}{b8:List (Str×D)}(hh:h=PyData.keyHash P x)
   (l:K.lookup a=some ⟨.type "tuple",none,.seq its n,jy⟩) (f:(decide (its.size<=1000) && gh its.toList ds)=true) (tl:CRows K P r b8):CRows K P (⟨h,.str x t,.ref a⟩::r) ((x,.tup ds)::b8)
 |flat {x:Str}{t:Tok}{h:Int}{u:Value}{d:D}{r:List DictEntry}{b8:List (Str×D)}(hh:h=PyData.keyHash P x) (f:nF u d=true) (tl:CRows K P r b8):CRows K P (⟨h,.str x t,u⟩::r) ((x,d)::b8)
theorem CRows.lit {K:Frag}{P:Params}:∀ {es:List DictEntry}{b8:List (Str×D)},CRows K P es b8->PySem.W.KeysLit P es
 |_,_,.nil=>trivial
 |_,_,.tup hh _ _ tl=>⟨⟨_,_,rfl,hh⟩,tl.lit⟩
 |_,_,.flat hh _ tl=>⟨⟨_,_,rfl,hh⟩,tl.lit⟩
theorem CRows.find {K:Frag}{P:Params}(y:Str):∀ {es:List DictEntry}{b8:List (Str×D)},CRows K P es b8->match b8.lookup y with
  |none=>es.find? (λe=>Value.isStrOf y e.key)=none
  |some d=>∃e v,es.find? (λe=>Value.isStrOf y e.key)=some e/\aI v e.val/\∀B,Is K B v d
 |_,_,.nil=>rfl
 |_,_,.tup (x:=x) (t:=t) (a:=a) (ds:=ds) hh l f tl=>by
  by_cases e:y=x
  ·subst e;rw[List.lookup_cons_self];rw[vC]at f;obtain⟨vs,r,i⟩:=gi (K:=K) f.2;exact⟨_,.ref a,List.find?_cons_of_pos (by simp[Value.isStrOf]),rfl,λB=>.tup (.inr ⟨_,_,_,l,rfl,rfl,Nat.le_of_lt (Nat.lt_of_le_of_lt (of_decide_eq_true f.1) (by decide)),r⟩) (i B)⟩
  ·have ih:=tl.find y;rw[List.lookup_cons,beq_eq_false_iff_ne.mpr e];have nf:Value.isStrOf y (Value.str x t)=false:=by
    rw[Bool.eq_false_iff];intro z;obtain⟨t',q⟩:=Value.isStrOf_shape z;injection q with q1;exact e q1.symm
   simp only[List.find?_cons,nf];exact ih
 |_,_,.flat (x:=x) (t:=t) (u:=u) (d:=d) hh f tl=>by
  by_cases e:y=x
  ·subst e;rw[List.lookup_cons_self];obtain⟨v,r1,_⟩:=gU (K:=K) (B:=λ_=>none) f;refine⟨_,v,List.find?_cons_of_pos (by simp[Value.isStrOf]),r1,λB=>?_⟩;obtain⟨v',HD,i'⟩:=gU (K:=K) (B:=B) f;have:v'=v:=by have z1:=r1.abs;rw[HD.abs]at z1;exact vJ z1
   subst this;exact i'
  ·have ih:=tl.find y;rw[List.lookup_cons,beq_eq_false_iff_ne.mpr e];have nf:Value.isStrOf y (Value.str x t)=false:=by
    rw[Bool.eq_false_iff];intro z;obtain⟨t',q⟩:=Value.isStrOf_shape z;injection q with q1;exact e q1.symm
   simp only[List.find?_cons,nf];exact ih
def iO (K:Frag)(P:Params)(a:Addr)(b8:List (Str×D)):Prop:=∃es n,K.lookup a=some ⟨.type "dict",none,.dict es n,#[]⟩/\CRows K P es.toList b8/\(a == sysModules)=false
theorem const_dict {K:Frag}{P:Params}{y:Str}{a:Addr}{es:Array DictEntry}{n:Nat}{b8:List (Str×D)}(e:PySem.W.nsIn K mainGlobals y=some (some (.ref a)))(l:K.lookup a=some ⟨.type "dict",none,.dict es n,#[]⟩)(r:CRows K P es.toList b8)(s:(a == sysModules)=false):
  ∃a,PySem.W.nsIn K mainGlobals y=some (some (.ref a))/\iO K P a b8:=⟨a,e,es,n,l,r,s⟩
section
variable {X:Cx}{a b e:Expr}{pos:Pos}{x:Str}{p:Pos}
theorem iO.map {ac:List (Addr×Obj)}{σ:St}{H:Hp}{s:Shared}{d:Addr}{b8:List (Str×D)}(I:Inv X ac σ H s)(h:iO X.K X.w.params d b8):∃f:Str->Option Value,s.heap.MapOf (strKind X.prog X.w) d f/\(d == sysModules)=false /\
  ∀y,match b8.lookup y with|none=>f y=none|some dd=>∃u v,f y=some u/\aI v u/\∀B,Is X.K B v dd:=by
 obtain⟨es,n,l,r,sm⟩:=h;refine⟨_,PySem.W.mapOf_K I.kIn l r.lit,sm,λy=>?_⟩;have:=r.find y;have ff:findBy Value.isStrOf es y=(es.toList.find? λe=>Value.isStrOf y e.key).map (·.val):=by
  unfold findBy;obtain⟨es⟩:=es;rw[List.find?_toArray]
 cases hl:b8.lookup y with
 |none=>rw[hl]at this;dsimp only at this ⊢;rw[ff,this];rfl
 |some dd=>
  rw[hl]at this;obtain⟨en,v,e1,e2,e3⟩:=this;exact⟨en.val,v,by rw[ff,e1];rfl,e2,e3⟩
@[simp] noncomputable def iP (b8:List (Str×D)):D->OB
 |.str y=>(b8.lookup y).map λd=>(d,false)
 |_=>none
@[simp] noncomputable def kC (b8:List (Str×D)):D->OB
 |.str y=>some (.bl (!(b8.lookup y).isSome),false)
 |_=>none
theorem nH (h:∃d,X.mg x=some (.ref d)/\iO X.K X.w.params d b8)(hb:JE X b f)(hg:Gl X x:=by rfl)(hd:(x == ("__debug__" : Str))=false:=by decide)(hs:jW b:=by intro _ _;rfl):JE X (.Subscript (.Name x p) b pos) (f1 (iP b8) f):=by
 obtain⟨d,hm,cd⟩:=h;have ix:uK X (λx y H Q=>∃z dd,x=.ref d/\y=.str z/\b8.lookup z=some dd/\∀v,(∀B,Is X.K B v dd)->Q v H):=by
  intro value slice ac s σ H x y v u Q I rx ry q hs;obtain⟨z,dd,rfl,rfl,el,q⟩:=q;cases rx
  obtain⟨t,rfl⟩:=ry;obtain⟨f,hM,sm,hf⟩:=cd.map I;have:=hf z;rw[el]at this;obtain⟨u,v,e1,e2,e3⟩:=this;exact tail_any hM.typeIs slot_dict_getitem.lookup (wpAny_getItem_of (strKind_is X.prog X.w z t) hM e1 ⟨v,H,I.tok _,e2,q v e3⟩) hs
 refine PE.to (uL ix (dW (v:=.ref d) hg hm rfl hd) hb hs) λσ H Q q=>?_;obtain⟨B,ρ,d',bb,sB,r,ee,q⟩:=q;obtain⟨x1,ex,ee⟩:=oX ee;refine⟨B,ρ,x1.1,x1.2,sB,r,ex,λv H1 N1 xt i1 _=>?_⟩;obtain⟨xd,xb⟩:=x1;cases i1<;>try (simp[iP]at ee;done)
 rename_i z _;simp only[iP]at ee;obtain⟨dd,e1,e2⟩:=oY ee;cases e2
 exact⟨z,_,rfl,rfl,e1,λv hv=>(q.into xt).one xt.nh (hv _)⟩
@[simp] noncomputable def FF:List D->OB
 |[.lst ds]=>some (.lst ds,true)
 |[.tup ds]=>some (.lst ds,true)
 |_=>none
@[simp] noncomputable def c8:List D->OB
 |[.lst ds]=>some (.tup ds,false)
 |[.tup ds]=>some (.tup ds,false)
 |_=>none
theorem jX:bM X (.type "tuple") (yt X.K c8):=by
 refine bM.to lI λxs H Q q=>?_;obtain⟨B,ds,d,bb,sB,i,ee,q⟩:=q;cases i with
 |nil=>simp[c8]at ee
 |cons i1 i2=>
  cases i2 with
  |cons _ _=>cases i1<;>simp[c8]at ee
  |nil=>
   cases i1<;>try (simp[c8]at ee;done)
   ·rename_i l0 vs es h hl;simp only[c8]at ee;cases ee
    exact⟨_,_,rfl,.inr ⟨bg sB h,q.one sB (.tup h hl)⟩⟩
   ·rename_i l0 vs es h hl;simp only[c8]at ee;cases ee
    refine⟨_,_,rfl,.inl ⟨sB.seq h,λl hp=>?_⟩⟩;have xt:=Ext.laid (o:=.tup vs) sB hp;exact q _ _ _ xt (.tup (gb.of aw) (hl.mono xt.bn)) (by simp)
end
section
variable {X:Cx}{a b e:Expr}{pos:Pos}{x:Str}{p:Pos}
def vN (K:Frag)(n:Nat)(t:zW):TG:=λv σ H Q=>∃k a xs,v=.ref a/\j6 k K H a xs/\xs.length=n/\t xs σ H Q
theorem BD (hc:X.calm=true)(h:Dj X es t)(hn:(assignEach es X.env).length=n:=by rfl)(jg:(assignEach es X.env).findIdx? (·.1)=none:=by rfl):PG X (.Tuple es kt pos) (vN X.K n t):=by
 intro ac s σ H v u Q I r hw;obtain⟨k,l,xs,rfl,hq,hl,hw⟩:=hw;cases r
 cases k with
 |false=>
  obtain⟨its,rv,ht,hz⟩:=I.tuple hq;refine assign_Tuple_tuple (I.ok.hd hc) ht (by simp[hn,←hl,rv.length]) jg λh' hx=>?_;have I1:Inv X ac σ H { s with heap:=h' }:=I.kept (t':=s.toks) λb o e=>hx b o (vS (vX e)) e;exact h ac _ σ H xs _ Q I1 (by simpa using rv) hw
 |true=>
  obtain⟨its,rv,ht,hz⟩:=I.list hq;rw[assign_Tuple];refine wX (wpAny_standAt ?_);unfold unpack;have hsz:(assignEach es X.env).length=its.toArray.size:=by simp[hn,←hl,rv.length]
  rw[hsz,jg];refine wX (wpAny_holding (PySem.W.kun_itemsOf (I.ok.hd hc) ht.isList λh' hx=>?_));have I1:Inv X ac σ H { s with heap:=h' }:=I.kept (t':=s.toks) λb o e=>hx b o (vS (vX e)) e;exact h ac _ σ H xs _ Q I1 (by simpa using rv) hw
@[simp] def mq (is:List Nat)(f:FE):FS:=λρ=>(f ρ).bind λx=>(gm x.1).bind λds=>(dU is ds (if bi ds=true then ρ else unown ρ)).map .nx
theorem wa {K:Frag}{is:List Nat}{f:FE}{E:Ends}{σ:St}{H:Hp}(q:mj K (mq is f) E σ H):uD (tD K f) (vN K is.length (jm is)) E σ H:=by
 obtain⟨B0,H0,ρ,r,⟨N,s⟩,e,p⟩:=q;obtain⟨x,ex,e⟩:=oX e;obtain⟨ds,es,e⟩:=oX e;obtain⟨ρ',eρ,e⟩:=oY e;subst e;refine⟨N,ρ,x.1,x.2,s.ext.nh,s.rep,ex,λv H1 N1 x1 i1 _=>?_⟩;obtain⟨k,a,vs,rfl,sq,il⟩:=oW i1 es;have s1:=s.grow x1;refine⟨k,a,vs,rfl,sq.same x1.nh,by rw[il.length];exact jo eρ,?_⟩;by_cases hn:bi ds=true
 ·rw[if_pos hn]at eρ;exact jn s1 (s1.flats il hn) eρ λσ' s'=>p σ' H1 ⟨N1,s'⟩
 ·rw[if_neg hn]at eρ;exact jn s1.unown (il.mono λa o e=>by rw[ci jk];exact e) eρ λσ' s'=>p σ' H1 ⟨N1,s'⟩
theorem yL (he:JE X e f)(hg:PG X (.Tuple es kt p2) (vN X.K is.length (jm is)))(hs:swapsWithSole [.Tuple es kt p2] e pos.line X.env=pure false:=by rfl)(hw:swappedStores [.Tuple es kt p2] e X.env=pure none:=by rfl)
  (h1:(assignEach [.Tuple es kt p2] X.env).map (·.2)=[assign (.Tuple es kt p2) X.env]:=by rfl):JS X (.Assign [.Tuple es kt p2] e pos) (mq is f):=PS.to (AT he hg hs hw h1) λ_ _ _ q=>wa q
@[simp] def Ko (i:Nat)(fk fv:FE):FS:=λρ=>match ρ[i]? with
 |some (some (.lst ds,true))=>(fv ρ).bind λv=>(fk ρ).bind λk=>match k.1 with
  |.int j=>(Ac ds.length j).bind λn=>if bw v.1=true then some (.nx (ρ.set i (some (.lst (ds.set n v.1),true))))else none
  |_=>none
 |_=>none
@[simp] def wb (i:Nat)(f:FE):FS:=λρ=>match ρ[i]? with
 |some (some (.lst ds,true))=>(f ρ).bind λx=>match x.1 with
  |.lst es=>if x.2=true/\bi es=true/\ds.length+es.length<=sizeLine then some (.nx (ρ.set i (some (.lst (ds++es),true))))else none
  |_=>none
 |_=>none
theorem BE (he:JE X e f)(hN:X.N[i]? = some y:=by rfl)(hv:xS X.env.scope y:=by first|exact Or.inl rfl|exact Or.inr (Or.inl rfl)|exact Or.inr (Or.inr rfl))(hd:(y == ("__debug__" : Str))=false:=by decide)
  (gq:(y == ("__classdict__" : Str))=false:=by decide)
  (ly:attributeBase (.Name y py) "extend" X.env (eval (.Name y py) X.env)=eval (.Name y py) X.env:=by rfl)
  (rl:((backTo cW (starEach [e] X.env)).all (λx=>!x.1) && (backToKw cW (keywordEach [] X.env)).all (λx=>x.1.isSome)
   && decide ([e].length+([]:List Keyword).length+(if([]:List Keyword).isEmpty then 0 else 1)<30))=true:=by rfl)
  (l5:(gW.endLine == cW.line)=true:=by rfl) (hs:starEach [e] X.env=[(false,eval e X.env)]:=by rfl) (xz:swapsWith (.Call (.Attribute (.Name y py) "extend" gW) [e] [] cW) none pos.line X.env=pure false:=by rfl):
  JS X (.Expr (.Call (.Attribute (.Name y py) "extend" gW) [e] [] cW) pos) (wb i f):=by
 refine PS.to (r0 (uS PySem.F.plainAttrs_list PySem.F.slot_list_extend PySem.F.type_list_extend tu (cf hN hv hd gq) (bI he cS hs) ly rl l5 hs rfl) xz) λE σ H q=>?_;obtain⟨B0,H0,ρ,r,⟨N,s⟩,ee,p⟩:=q;unfold wb at ee;split at ee
 ·rename_i ds ei;obtain⟨v,ev,ee⟩:=oX ee;obtain⟨vd,vb⟩:=v;cases vd with
  |lst es=>
   dsimp only at ee;split at ee
   ·rename_i hc;cases ee
    obtain⟨l,vs,z8,z,h1,h2,h3,h4⟩:=s.owL i _ ei;cases z
    refine⟨_,h1,.inl ⟨rfl,vs,fZ.of (s.ext.nh _ _ h2)⟩,N,ρ,_,_,s.ext.nh,s.rep,ev,λv1 H1 N1 x1 i1 f1=>?_⟩;obtain⟨l2,ws,oh,rfl,z,g1,g2,g3⟩:=f1 hc.1;cases z
    have s1:=s.grow x1;obtain⟨l',Ja,z8,z,k1,k2,_,k4⟩:=s1.owL i _ ei;cases z
    rw[h1]at k1;cases k1;exact⟨l,l2,Ja,ws,rfl,rfl,s1.ext.nh _ _ k2,x1.nh _ _ g2,by rw[k4.length,g3.length];exact hc.2.2,p σ _ ⟨_,s1.write ei h1 (k4.append (s1.flats g3 hc.2.1))⟩⟩
   ·cases ee
  |_=>cases ee
 ·cases ee
end
open AutoSeq1 (wpAny_loadPart')
set_option maxRecDepth 100000
end DL
namespace DL
open PySem PySem.Spec PyProof.Rows
theorem tK (t:SetTable)(es:Array (Int×Value))(n:Nat):(relayAll t es n).2.1.led=t.led:=by
 unfold relayAll;split
 ·rename_i t' order h;unfold SetTable.relaid SetTable.laid at h;obtain⟨ow,_,h⟩:=oX h;cases h
  dsimp only;split<;>rfl
 ·rfl
theorem pb (t:SetTable)(es:Array (Int×Value))(n:Nat)(hp:t.plain=false):(relayAll t es n).2.1.plain=false:=by
 unfold relayAll;split
 ·rename_i t' order h;unfold SetTable.relaid SetTable.laid at h;obtain⟨ow,_,h⟩:=oX h;cases h
  dsimp only;split
  ·exact hp
  ·rfl
 ·rfl
theorem yM (t:SetTable)(es:Array (Int×Value))(h:Int)(x:Value):(layNew t es h x).2.1.led=t.led:=by
 unfold layNew;split
 ·dsimp only[SetTable.put,SetTable.orStandIn];repeat' (first|rfl|split)
 ·rfl
structure TabT (w:World)(es:Array (Int×Value))(t:SetTable):Prop where
 fits:t.fits es.size=true
 led:t.led = !w.params.followText "set-order"
 plain:es.size≠0->t.plain=false
def fm (prog:Program)(w:World)(h:Heap)(a:Addr)(ts:List Str):Prop :=
 ∃o es ep t,h.get? a=some o/\o.ExactSet/\o.data=.set es ep t/\ElemsOf (PySem.strKind prog w) es.toList/\(es.toList.map (λe=>strOf e.2)).Perm ts/\ts.Nodup/\ts.length<scanBound/\TabT w es t
noncomputable def fB (ts:List Str)(x:Str):List Str:=if x∈ts then ts else ts++[x]
theorem wc (ts:List Str)(x:Str):(fB ts x).length<=ts.length+1:=by unfold fB;split<;>simp
theorem pc (h:Value.isStrOf k v=true):strOf v=k:=by obtain⟨t,rfl⟩:=Value.isStrOf_shape h;rfl
section
variable {prog:Program}{w:World}{A:Around}{E:Value->Shared->Prop}{s:Shared}
theorem mr {es:Array (Int×Value)}{ts:List Str}(xP:ElemsOf (PySem.strKind prog w) es.toList)(hp:(es.toList.map (λe=>strOf e.2)).Perm ts)(k:Str):k∈ts ↔ ∃e∈es.toList,(PySem.strKind prog w).is k e.2=true:=by
 rw[←hp.mem_iff,List.mem_map];constructor
 ·rintro⟨e,he,rfl⟩;obtain⟨⟨k',hk,_⟩,_⟩:=xP e he;have xB:Value.isStrOf k' e.2=true:=hk;refine⟨e,he,?_⟩;show Value.isStrOf (strOf e.2) e.2=true;rw[pc xB];exact xB
 ·rintro⟨e,he,hk⟩;exact⟨e,he,pc hk⟩
theorem mv {h:Heap}{a:Addr}{o:Obj}{es:Array (Int×Value)}{ep:Nat}{t:SetTable}(ho:h.get? a=some o)(hd:o.data=.set es ep t)(oh:Array (Int×Value))(t':SetTable):
  (h.update a (Obj.putSet oh t')).get? a=some { o with data:=.set oh (ep+1) t' }:=by
 have:=Heap.get?_update_self (Obj.putSet oh t') ho (by rw[putSet_of oh t' hd];rfl);rw[putSet_of oh t' hd]at this;exact this
theorem pd {g:Bool->Sem Unit}(hg:∀(b:Bool)(s₁:Shared)(Q':Unit->Shared->Prop),Q' () s₁->wpAny (model prog w) A (g b) Q' E s₁)
  {a:Addr}{o:Obj}{es:Array (Int×Value)}{ep:Nat}{t:SetTable}(ho:s.heap.get? a=some o) (u6:o.ExactSet) (hd:o.data=.set es ep t)
  {jh:Array (Int×Value)}{t2:SetTable}{ts:List Str}(xC:ElemsOf (PySem.strKind prog w) jh.toList) (CP:(jh.toList.map (λe=>strOf e.2)).Perm ts) (nd:ts.Nodup)
  (zI:ts.length<scanBound) (Lp:t2.fits jh.size=true) (Hl:t2.led = !w.params.followText "set-order") (hpl:t2.plain=false) {qc:Bool}{R:Option Bool->Shared->Prop}
  (h:∀h',Heap.SameBut a s.heap h'->fm prog w h' a ts->R (some true) { s with heap:=h' }):
  wpAny (model prog w) A (do
    storeSet a jh t2
    if(!qc && t2.tooFull)=true then do
      g (relayAll t2 jh (SetTable.grown jh.size)).2.2
      storeSet a (relayAll t2 jh (SetTable.grown jh.size)).1 (relayAll t2 jh (SetTable.grown jh.size)).2.1
      pure (some true)
     else pure (some true)) R E s:=by
 have Jv:jh.size=ts.length:=by rw[←CP.length_eq,vH,vF]
 refine wX (wpAny_storeSet_of ho hd ?_ (fits_of_scanBound (by rw[Jv];exact zI)));have HI:=mv ho hd jh t2;have EV:=vW s.heap a (Obj.putSet jh t2);split
 ·have hp:=relayAll_perm t2 jh (SetTable.grown jh.size);have qd:=relayAll_fits t2 jh (SetTable.grown jh.size);have zH:=tK t2 jh (SetTable.grown jh.size);have EW:=pb t2 jh (SetTable.grown jh.size) hpl;generalize hRl:relayAll t2 jh (SetTable.grown jh.size)=Rl at hp qd zH EW ⊢;obtain⟨Gd,t3,Jw⟩:=Rl;dsimp only at hp qd zH EW ⊢;have HJ:ElemsOf (PySem.strKind prog w) Gd.toList:=xC.perm hp;have hsz:Gd.size=jh.size:=by rw[←vF,hp.length_eq,vF]
  refine wX (hg _ _ _ ?_);refine wX (wpAny_storeSet_of HI rfl ?_ (fits_of_scanBound (by rw[hsz,Jv];exact zI)));have CL:=mv HI rfl Gd t3;exact wY (h _ (EV.trans (vW _ a _)) ⟨_,Gd,_,t3,CL,u6,rfl,HJ,(hp.map _).trans CP,nd,zI,qd,zH.trans Hl,λ_=>EW⟩)
 ·exact wY (h _ EV ⟨_,jh,_,t2,HI,u6,rfl,xC,CP,nd,zI,Lp,Hl,λ_=>hpl⟩)
theorem qI {a:Addr}{ts:List Str}{k:Str}{tk:Tok}{Q:Bool->Shared->Prop}(hS:fm prog w s.heap a ts)(EY:ts.length+1<scanBound)
  (h:∀b h',Heap.SameBut a s.heap h'->fm prog w h' a (fB ts k)->Q b { s with heap:=h' }):
  wpAny (model prog w) A (setAddHashed a (.str k tk) ((PySem.strKind prog w).hash k)) Q E s:=by
 have hS0:=hS;obtain⟨o,es,ep,t,ho,u6,hd,xP,nY,nd,hb,hf,zJ,hpl⟩:=hS;have z5:(PySem.strKind prog w).is k (.str k tk)=true:=strKind_is prog w k tk;have sz:es.size=ts.length:=by rw[←nY.length_eq,vH,vF]
 unfold setAddHashed setAddHashedIn;refine wpAny_holding (wX (wpAny_setState_of ho hd hf ?_));dsimp only;rw[byScan_of (x:=.str k tk) rfl (by rw[sz];exact hb) xP];simp only[↓reduceIte];unfold setAddByScan;refine wX ?_;refine wX (wpAny_rule ?_);refine wX (wpAny_setScan_of z5 ho hd hf xP ?_);cases hr:List.findIdx? (λe=>(PySem.strKind prog w).is k e.2) es.toList with
 |some j=>
  dsimp only;obtain⟨hj,Lq,_⟩:=List.findIdx?_eq_some_iff_getElem.mp hr;have hm:k∈ts:=(mr xP nY k).mpr ⟨es.toList[j],List.getElem_mem hj,Lq⟩;refine wY (wY ?_);have e:fB ts k=ts:=by unfold fB;rw[if_pos hm]
  exact h false s.heap (Heap.SameBut.refl a s.heap) (by rw[e];exact hS0)
 |none=>
  dsimp only;have hm:k∉ts:=λz=>by
   obtain⟨e,he,hp⟩:=(mr xP nY k).mp z;have:=List.findIdx?_eq_none_iff.mp hr e he;rw[hp]at this;exact Bool.noConfusion this
  have ea:fB ts k=ts++[k]:=by unfold fB;rw[if_neg hm]
  have Lr:∀(b:Bool){s₁:Shared}{Q':Unit->Shared->Prop},Q' () s₁->wpAny (model prog w) A (match b with|true=>rule "set.scan.the-table-gave-way" | false=>pure ()) Q' E s₁ :=
   λb s₁ Q' hq=>by cases b<;>first|exact wY hq|exact wpAny_rule hq
  have fg:=layNew_perm t es ((PySem.strKind prog w).hash k) (.str k tk);have sS:=layNew_fits t es ((PySem.strKind prog w).hash k) (.str k tk);have Co:=yM t es ((PySem.strKind prog w).hash k) (.str k tk);generalize hL:layNew t es ((PySem.strKind prog w).hash k) (.str k tk)=L at fg sS Co ⊢;obtain⟨jh,t1,qc,HK⟩:=L;dsimp only at fg sS Co ⊢;rw[Array.toList_push]at fg;have xC:ElemsOf (PySem.strKind prog w) jh.toList:=(xP.push z5 rfl).perm fg;have CP:(jh.toList.map (λe=>strOf e.2)).Perm (ts++[k]):=(fg.map _).trans (by rw[List.map_append];exact nY.append_right _);have Jx:(ts++[k]).Nodup:=by
   rw[List.nodup_append];refine⟨nd,by simp,λx hx y hy=>?_⟩;rw[List.mem_singleton]at hy;subst hy;exact λz=>hm (z ▸ hx)
  have zI:(ts++[k]).length<scanBound:=by rw[uZ];exact EY
  refine wX (Lr _ ?_);have EZ:∀h',Heap.SameBut a s.heap h'->fm prog w h' a (ts++[k])->Q true { s with heap:=h' }:=λh' hsb xD=>h true h' hsb (by rw[ea];exact xD);split
  ·refine wX ?_;rw[hashByValue_scannable 8 (x:=.str k tk) rfl];refine wY ?_;refine pd ?_ ho u6 hd xC CP Jx zI ?_ ?_ ?_ ?_
   ·intro b s₁ Q' hq;cases b<;>first|exact wY hq|exact wpAny_rule hq
   ·exact SetTable.fits_plain_off sS
   ·exact Co.trans zJ
   ·rfl
   ·intro h' hsb xD;dsimp only;exact wY (EZ h' hsb xD)
  ·rename_i hnp;refine wX (wY ?_);simp only[↓reduceIte];refine pd ?_ ho u6 hd xC CP Jx zI sS (Co.trans zJ) (by simpa using hnp) ?_
   ·intro b s₁ Q' hq;cases b<;>first|exact wY hq|exact wpAny_rule hq
   ·intro h' hsb xD;dsimp only;exact wY (EZ h' hsb xD)
end
noncomputable def dP (ss:List Str):List Str:=ss.foldl fB []
theorem qJ (h:ts.Nodup)(x:Str):(fB ts x).Nodup:=by
 unfold fB;split
 ·exact h
 ·rename_i hm;rw[List.nodup_append];refine⟨h,by simp,λy hy z hz=>?_⟩;rw[List.mem_singleton]at hz;subst hz;exact λe=>hm (e ▸ hy)
theorem kD:y∈fB ts x↔y∈ts∨y=x:=by
 unfold fB;split
 ·rename_i hm;exact⟨.inl,λz=>z.elim id λe=>e ▸ hm⟩
 ·simp
theorem nI (ss:List Str):∀ts:List Str,(ss.foldl fB ts).length<=ts.length+ss.length:=by
 induction ss with
 |nil=>intro ts;simp
 |cons x r ih=>intro ts;rw[List.foldl_cons];have:=ih (fB ts x);have:=wc ts x;simp only[vD];omega
theorem kE (ss:List Str):(dP ss).length<=ss.length:=by have:=nI ss [];simpa [dP]using this
theorem tL (ss:List Str)(x:Str):dP (ss++[x])=fB (dP ss) x:=by unfold dP;rw[List.foldl_append];rfl
theorem StrsAre.at:∀ {vs:List Value}{ss:List Str},StrsAre vs ss->∀(i:Nat)(v:Value),vs[i]? = some v->∃x t,v=.str x t/\ss[i]? = some x
 |_,_,.nil,i,v,h=>by simp at h
 |_,_,.cons x t hr,0,v,h=>by simp at h;exact⟨x,t,h.symm,rfl⟩
 |_,_,.cons x t hr,i+1,v,h=>by
  simp only[List.getElem?_cons_succ]at h;exact StrsAre.at hr i v h
theorem fm.at (x:fm prog w h a ts)(k:∀o,h.get? a=some o->h'.get? a=some o):fm prog w h' a ts:=by
 obtain⟨o,es,ep,t,ho,r⟩:=x;exact⟨o,es,ep,t,k o ho,r⟩
section
variable {prog:Program}{w:World}{A:Around}{R:Result->Shared->Prop}{I:Addr}{fp wr:List Addr}{G:Array GenState->Array GenState->Prop}{n:Nat}{P:Nat->Value->Prop}{St:Nat->Shared->Prop}
theorem nJ (W:WalksS prog w A.in1 I fp wr G n P St)(S:Addr)(sU:S∉fp)(ss:List Str)(hn:ss.length=n)
  (Cp:∀i v,P i v->∃x t,v=.str x t/\ss[i]? = some x) (hb:n+1<scanBound):
  ∀(k i:Nat)(s:Shared),n - i=k->i<=n->St i s->fm prog w s.heap S (dP (ss.take i)) ->
   (∀s',Moved (S::wr) G s s'->fm prog w s'.heap S (dP ss)->R (.ok (.ret .none)) s') ->
   codeAny (model prog w) A (.builtin "set.update.loop" ⟨[.ref S,.ref I],[]⟩) R s:=by
 have Jy:S∉wr:=λh=>sU (W.sub _ h);have xA:∀b∈wr,b∈S::wr:=λb hb=>mZ _ hb;intro k;induction k with
 |zero=>
  intro i s hk hi jg hS hR;have zK:i=n:=by omega
  subst zK;refine codeAny_builtin PyProof.Rows.F.entry_set_update_loop ?_;rw[Around.under_plainId PyProof.Rows.F.plain_set_update_loop _];show wpAny _ A.in1 (pyNext (.ref I)>>=_) _ _ s;refine wX (W.done s _ _ jg λs' hm=>?_);show wpAny _ A.in1 (ret Value.none) _ _ s';refine wY (hR s' (hm.mono xA) ?_);rw[List.take_of_length_le (by omega)]at hS;exact hS.at λo e=>hm.heap S _ Jy e
 |succ k ih=>
  intro i s hk hi jg hS hR;have fG:i<n:=by omega
  refine codeAny_builtin PyProof.Rows.F.entry_set_update_loop ?_;rw[Around.under_plainId PyProof.Rows.F.plain_set_update_loop _];show wpAny _ A.in1 (pyNext (.ref I)>>=_) _ _ s;refine wX (W.item i s _ _ fG jg λv s' hP hst' hm=>?_);obtain⟨x,t,rfl,hx⟩:=Cp i v hP;have xD:fm prog w s'.heap S (dP (ss.take i)):=hS.at λo e=>hm.heap S _ Jy e;show wpAny _ A.in1 (holding [Value.str x t] (setAdd S (.str x t))>>=_) _ _ s';refine wX (wpAny_holding ?_);unfold setAdd;refine wpAny_holding ?_;refine wX ((PySem.strKind prog w).pyHash (k:=x) (strKind_is prog w x t) ?_);have hl:(dP (ss.take i)).length+1<scanBound:=by have:=kE (ss.take i);rw[List.length_take]at this;omega
  refine qI (s:={ s' with toks:=s'.toks+1 }) xD hl λb h' hsb AB=>?_;have Ge:fm prog w h' S (dP (ss.take (i+1))):=by
   rw[List.take_add_one,hx,Option.toList_some,tL];exact AB
  refine wY ⟨plainId_quiet PyProof.Rows.F.plain_set_update_loop _,ih (i+1) _ (by omega) fG (W.frame _ s' _ _ hst' (Nat.le_succ _) λb hb o e=>?_) Ge λE7 hm'' hS''=>?_⟩
  ·rw[hsb.2 b (λh:b=S=>sU (by rw[←h];exact hb))];exact e
  ·refine hR E7 (Moved.trans W.gtrans ((hm.mono xA).then_heap (Nat.le_succ _) λb o hb e=>?_) hm'') hS'';rw[hsb.2 b (λh:b=S=>hb (by rw[h];exact mX))];exact e
end
section
variable {prog:Program}{w:World}{A:Around}{E:Value->Shared->Prop}{s:Shared}
noncomputable abbrev cQ (w:World):Obj:={ cls:=.type "set",dict:=none,data:=.set #[] 0 (.fresh 0 0 (!w.params.followText "set-order")) }
theorem pe (a:Value) 
  (h:Q₁ (.ref s.heap.objs.size) { s with heap:=s.heap.push (cQ w) }):
  codeAny (model prog w) A (.call (.builtin "set.__new__") ⟨[.type "set",a],[]⟩) (wants Q₁ E) s:=by
 refine codeAny_of_tree ?_;show wpAny _ A.in1 (do checkBuiltinCall "set.__new__" ⟨[.type "set",a],[]⟩;again (.builtin "set.__new__" ⟨[.type "set",a],[]⟩)) _ _ s;refine wX (wpAny_of_eq (PySem.F.newCall_set_1 a) (wY ⟨plainId_quiet PySem.F.plain_set_new _,codeAny_builtin PySem.F.entry_set_new ?_⟩));rw[Around.under_plainId PySem.F.plain_set_new _];unfold Builtin.«set.__new__» Builtin.Frozenset.newClass;have xA:=sub_set_self;obtain⟨hp,g,d,tk,os⟩:=s;dsimp only;wp_walk;refine wpAny_askSetting (wY ?_);dsimp only;simp only[newObj];refine wX (wpAny_alloc (wY ?_));exact wY h
set_option maxHeartbeats 3200000 in
theorem kF 
  (hh:A.handled=none) (hl:s.heap.IsList l am) (hi:StrsAre am.toList ss) (hb:am.size+1<scanBound)
  (h:∀(h':Heap)(tk:Nat),fm prog w h' s.heap.objs.size (dP ss) ->
   (∀b o,b<s.heap.objs.size->s.heap.get? b=some o->h'.get? b=some o)->Q (.ref s.heap.objs.size) { s with heap:=h',toks:=tk }):
  wpAny (model prog w) A (call (.type "set") [.ref l]) Q E s:=by
 obtain⟨c,tl,Ls⟩:=PySem.F.called_set.mro;have Jz:=PySem.F.called_set.made;have xA:=PySem.F.called_set.sub;refine wpAny_call (codeAny_of_tree ?_);show wpAny _ _ (callAny (.type "set") _) _ _ _;refine wY ⟨Code.quiet_builtin _ (by decide +kernel),codeAny_builtin PySem.F.entry_type_call ?_⟩;rw[Around.under_plain (weight_type_call_type "set" [.ref l] []) rfl];have h1:=PySem.F.called_set.notType;have h2:=PySem.F.called_set.canCreate;have Mw:=PySem.F.typeCall_set_1 (.ref l);have bS:ss.length=am.size:=by have:=hi.strs;rw[←this,vH,vF]
 repeat (any_goals (first|assumption|wp_step))
 refine codeAny_mono (pe (.ref l) (E:=E) (Q₁:=λobj s₁=>obj=.ref s.heap.objs.size/\s₁={ s with heap:=s.heap.push (cQ w) }) ⟨rfl,rfl⟩) λr s₁ hr=>?_;cases r with
 |error e=>exact hr
 |ok fl=>
  cases fl with
  |ret obj=>
   obtain⟨rfl,rfl⟩:=hr;have hS:(s.heap.push (cQ w)).get? s.heap.objs.size=some (cQ w):=vY _ rfl;have hT:Shared.TypeIs { s with heap:=s.heap.push (cQ w) } (.ref s.heap.objs.size) "set":=⟨_,hS,rfl⟩;have Mx:=PySem.F.called_set.init.lookup;have My:=PySem.F.called_set.init.bind (.ref s.heap.objs.size);repeat (any_goals (first|assumption|wp_step))
   refine codeAny_mono (codeAny_call_builtin (R:=wants (λr s₂=>r=.none/\∃h' tk,s₂={ s with heap:=h',toks:=tk } /\
     fm prog w h' s.heap.objs.size (dP ss) /\
     (∀b o,b<s.heap.objs.size->s.heap.get? b=some o->h'.get? b=some o)) E) PySem.F.called_set.init.plain PySem.F.entry_set_init (check_set_init_1 hT ?_)) λr₂ s₂ hr₂=>?_
   ·obtain⟨ol,J0,J6,nl,HM⟩:=hl;obtain⟨Lu,Fa,J7,Cq⟩:=ol;simp only at J6 HM;subst J6;subst HM;have HN:(s.heap.push (cQ w)).get? l=some { cls:=.type "list",dict:=Fa,data:=.seq am nl,slots:=Cq }:=vZ _ J0;have Lv:=PySem.F.sub_list_set;have Lx:=PySem.F.sub_list_frozenset;have xO:(Value.type "list" == Value.type "dict")=false:=by decide
    have Co:(s.heap.push (cQ w)).IsList l am:=⟨_,HN,rfl,nl,rfl⟩;unfold Builtin.«set.__init__» noKeywords Builtin.Frozenset.updateFrom;generalize hPI:pyIter=PI;wp_walk;subst hPI;refine wpAny_pyIter_list Co ?_;refine wX (wpAny_runValue ?_);have J8:l<s.heap.objs.size:=vX J0;have Ly:A.in1.in1.in1.handled=none:=by simp[hh]
    have HP:l≠(s.heap.push (cQ w)).objs.size:=by
     rw[Heap.size_push];exact vS (Nat.lt_succ_of_lt J8)
    have sU:s.heap.objs.size∉[(s.heap.push (cQ w)).objs.size,l]:=by
     rw[Heap.size_push];simp only[List.mem_cons,List.mem_singleton,List.not_mem_nil,or_false,not_or];exact⟨vS (Nat.lt_succ_self _),Nat.ne_of_gt J8⟩
    have Cp:∀(i:Nat)(v:Value),am[i]? = some v->∃x t,v=.str x t/\ss[i]? = some x:=λi v hv=>
     StrsAre.at hi i v (by rw[Array.getElem?_toList];exact hv)
    refine nJ ((Walks.list Ly _ l HP am).toS) s.heap.objs.size
     sU ss bS Cp hb (am.size - 0) 0 _ (by omega) (uN _)
     ⟨⟨_,vY _ rfl,rfl,rfl⟩,(Co.push _)⟩ ?hS0 ?hR
    case hS0=>
     have zL:((s.heap.push (cQ w)).push { cls:=.type "list_iterator",data:=.fields #[.ref l,.int 0 0] }).get? s.heap.objs.size
       = some (cQ w):=vZ _ hS
     exact⟨_,#[],0,_,zL,⟨rfl,rfl,rfl⟩,rfl,λe he=>by simp at he,List.Perm.refl _,List.nodup_nil,(by show(0:Nat)<scanBound;decide),rfl,rfl,λz=>absurd rfl z⟩
    case hR=>
     intro s' hm xD
     obtain⟨h',g',d',zM,Hk⟩:=s'
     have eg:g'=s.gens:=hm.gens
     have ed:d'=s.drawn:=hm.drawn
     have eo:Hk=s.os:=hm.os
     subst eg;subst ed;subst eo
     show wpAny _ _ _ _ _ _
     refine wY ?_
     show wpAny _ _ (ret Value.none) _ _ _
     refine wY ⟨rfl,h',zM,rfl,xD,λb o hb e=>?_⟩
     have zI:b≠s.heap.objs.size:=vS hb
     have Lz:b≠(s.heap.push (cQ w)).objs.size:=by
      rw[Heap.size_push];exact vS (Nat.lt_succ_of_lt hb)
     exact hm.heap b o (by simp only[List.mem_cons,List.mem_singleton,List.not_mem_nil,or_false,not_or];exact⟨zI,Lz⟩) (vZ _ (vZ _ e))
   ·cases r₂ with
    |error e=>exact hr₂
    |ok fl₂=>
     cases fl₂ with
     |ret r=>
      obtain⟨rfl,h',tk,rfl,xD,xB⟩:=hr₂;repeat (any_goals (first|assumption|wp_step))
      exact h _ _ xD xB
     |_=>exact hr₂.elim
  |_=>exact hr.elim
end
open Sem (wp)
section
variable {M:Model}{A:Around}{E:Value->Shared->Prop}{s:Shared}
theorem yN (hn:n≠0)(h:∀k d,k<n->Q k { s with drawn:=d }):wpAny M A (choose src n) Q E s:=by
 intro Γ p hG;unfold choose;rw[Sem.wp_choose];refine⟨hn,?_⟩;have:=h _ (s.drawn.bump src) (Nat.mod_lt (M.w.draws src (s.drawn.get src)) (Nat.pos_of_ne_zero hn));simpa using this
end
theorem iQ {α:Type}:∀(l:List α)(i:Nat),i<l.length->(l.eraseIdx i).length=l.length - 1:=λl i h=>by rw[List.length_eraseIdx,if_pos h]
theorem ir {α:Type}:∀(l:List α)(i:Nat)(x:α),l[i]? = some x->(x::l.eraseIdx i).Perm l
 |[],i,x,h=>by simp at h
 |a::l,0,x,h=>by simp at h;subst h;exact List.Perm.refl _
 |a::l,i+1,x,h=>by
  rw[List.eraseIdx_cons_succ];simp only[List.getElem?_cons_succ]at h;exact(List.Perm.swap a x _).trans ((ir l i x h).cons a)
theorem sk {α:Type}:∀(n:Nat)(xs:List α)(s:Shared)(Q:List α->Shared->Prop),xs.length=n->(∀ys d,ys.Perm xs->Q ys { s with drawn:=d })->wpAny M A (drawOrder n xs) Q E s
 |0,xs,s,Q,hl,h=>by
  have:xs=[]:=List.eq_nil_of_length_eq_zero hl;subst this;exact wY (h [] s.drawn (List.Perm.refl _))
 |n+1,[],s,Q,hl,h=>by simp at hl
 |n+1,x::r,s,Q,hl,h=>by
  show wpAny M A (choose .order (x::r).length>>=λi=>match (x::r)[i]? with
   |some x'=>(do return x'::(←drawOrder n ((x::r).eraseIdx i)))
   |none=>unsupported "internal:drawOrder") Q E s
  refine wX (yN (by simp) λk d hk=>?_);obtain⟨y,hy⟩:∃y,(x::r)[k]? = some y:=⟨_,vU hk⟩;rw[hy];refine wX (sk n _ _ _ (by rw[iQ _ _ hk,hl];rfl) λys d' hp=>wY (h _ _ ((hp.cons y).trans (ir _ _ _ hy))))
theorem so {α:Type}(next:Nat->Nat):∀(fuel k:Nat)(left:List α)(out:Array α),left.length=fuel->(pickOrder.go next fuel k left out).toList.Perm (out.toList++left)
 |0,k,left,out,hl=>by
  have:left=[]:=List.eq_nil_of_length_eq_zero hl;subst this;unfold pickOrder.go;simp
 |fuel+1,k,left,out,hl=>by
  unfold pickOrder.go;have hk:next k % left.length<left.length:=Nat.mod_lt _ (by omega);obtain⟨y,hy⟩:∃y,left[next k % left.length]? = some y:=⟨_,vU hk⟩;rw[hy];dsimp only;refine(so next fuel (k+1) _ _ (by rw[iQ _ _ hk];omega)).trans ?_;rw[Array.toList_push,List.append_assoc];exact(ir _ _ _ hy).append_left _
theorem tM {α:Type}(next:Nat->Nat)(xs:Array α):(pickOrder next xs).toList.Perm xs.toList:=by
 have:=so next xs.size 0 xs.toList #[] (by simp);simpa [pickOrder]using this
theorem aW:Slot "set_iterator" "__next__" "set_iterator.__next__" :=
 .of (owner:="set_iterator") (n:="__next__") (by rw[typeLookup_type,builtinLookup_eq_fast];kernel_rfl) (by decide +kernel) (by decide +kernel) (by decide +kernel)
  (by first|exact .inl (by decide +kernel)|exact .inr (by decide +kernel)) (by rw[isSubtype_type];kernel_rfl)
theorem dn:entryFor table "set_iterator.__next__" = some Builtin.«set_iterator.__next__»:=entryFor_of_tree (by kernel_rfl)
theorem dF (a:Value):argsOk "set_iterator.__next__" ⟨[a],[]⟩:=by unfold argsOk;kernel_rfl
theorem hJ:Slot "set_iterator" "__iter__" "set_iterator.__iter__" :=
 .of (owner:="set_iterator") (n:="__iter__") (by rw[typeLookup_type,builtinLookup_eq_fast];kernel_rfl) (by decide +kernel) (by decide +kernel) (by decide +kernel)
  (by first|exact .inl (by decide +kernel)|exact .inr (by decide +kernel)) (by rw[isSubtype_type];kernel_rfl)
theorem kG:entryFor table "set_iterator.__iter__" = some Builtin.«dict_keyiterator.__iter__» :=
 entryFor_alias (id':="dict_keyiterator.__iter__") (by kernel_rfl) rfl (by decide +kernel) (by kernel_rfl)
theorem lL (a:Value):argsOk "set_iterator.__iter__" ⟨[a],[]⟩:=by unfold argsOk;kernel_rfl
theorem jQ:entryFor table "set.__iter__" = some Builtin.«frozenset.__iter__» :=
 entryFor_alias (id':="frozenset.__iter__") (by kernel_rfl) rfl (by decide +kernel) (by kernel_rfl)
noncomputable abbrev iu (HQ:Value)(i:Nat)(S:Addr)(n ep:Nat):Obj:={ cls:=.type "set_iterator",data:=.fields #[HQ,.int i 0,.ref S,.int n 0,.int ep 0] }
section
variable {prog:Program}{w:World}{A:Around}{E:Value->Shared->Prop}{s:Shared}{it S:Addr}{i ep:Nat}{o:Obj}{es:Array (Int×Value)}{t:SetTable}
theorem c9 (ho:s.heap.get? it=some (iu HQ i S n ep)):s.TypeIs (.ref it) "set_iterator":=⟨_,ho,rfl⟩
theorem nK {k k':Nat}{x:Value}{Q:Option Value->Shared->Prop}(ho:s.heap.get? it=some (iu (.int k 0) i S es.size ep))
  (hS:s.heap.get? S=some o) (hd:o.data=.set es ep t) (hf:t.fits es.size=true)
  (hN:∀(A':Around)(E':Value->Shared->Prop)(Q':Option (Value×Nat)->Shared->Prop),Q' (some (x,k')) s->wpAny (model prog w) A' (setNext S k i ep) Q' E' s)
  (hQ:∀h',h'.get? it=some (iu (.int k' 0) (i+1) S es.size ep)->Heap.SameBut it s.heap h'->Q (some x) { s with heap:=h' }):
  wpAny (model prog w) A (pyNext (.ref it)) Q E s:=by
 unfold pyNext;refine wX (wpAny_attempt (wpAny_callSpecial?_slot (name:=Str.ofString "__next__") (c9 ho) aW
  (wpAny_call_entry aW (c9 ho) dn ?_ (dF _))))
 show wpAny _ _ (fieldsOf (.ref it)>>=_) _ _ s;refine wX (wpAny_fieldsOf ho rfl ?_);show wpAny _ _ (setEntries S>>=_) _ _ s;refine wX (wpAny_setEntries_of hS hd hf ?_);rw[if_neg (by simp)];show wpAny _ _ (setNext S _ _ _>>=_) _ _ s;simp only[Int.toNat_natCast];refine wX (hN _ _ _ ?_);dsimp only;refine wX (wpAny_setField_rec ho (by simp) λh1 e1 b1=>?_);refine wX (wpAny_setField_rec e1 (by simp) λh2 e2 b2=>?_);exact wY ⟨x,rfl,wY (hQ h2 (by simpa [rawInt,iu]using e2) (b1.trans b2))⟩
theorem nL {k:Nat}{Q:Option Value->Shared->Prop}(hh:A.handled=none)(ho:s.heap.get? it=some (iu (.int k 0) i S es.size ep))
  (hS:s.heap.get? S=some o) (hd:o.data=.set es ep t) (hf:t.fits es.size=true)
  (hN:∀(A':Around)(E':Value->Shared->Prop)(Q':Option (Value×Nat)->Shared->Prop),Q' none s->wpAny (model prog w) A' (setNext S k i ep) Q' E' s)
  (hQ:∀h',Heap.ExtBut it s.heap h'->Q none { s with heap:=h' }):
  wpAny (model prog w) A (pyNext (.ref it)) Q E s:=by
 unfold pyNext;refine wX (wpAny_attempt (wpAny_callSpecial?_slot (name:=Str.ofString "__next__") (c9 ho) aW
  (wpAny_call_entry aW (c9 ho) dn ?_ (dF _))))
 show wpAny _ _ (fieldsOf (.ref it)>>=_) _ _ s;refine wX (wpAny_fieldsOf ho rfl ?_);show wpAny _ _ (setEntries S>>=_) _ _ s;refine wX (wpAny_setEntries_of hS hd hf ?_);rw[if_neg (by simp)];show wpAny _ _ (setNext S _ _ _>>=_) _ _ s;simp only[Int.toNat_natCast];refine wX (hN _ _ _ ?_);dsimp only;refine wX (wpAny_setField_rec ho (by simp) λh1 e1 b1=>?_);refine wX ?_;simp only[newExc,newTuple];refine wX (wpAny_newObj_type ?_ (by size_fits));refine wX (m:=firstArgMember _ _) (wpAny_of_eq (a:=Value.none) (by first|rfl|(simp only[firstArgMember];rfl)) ?_);refine wpAny_newObj_type ?_ (by size_fits);simp only[raiseNew];refine wX (wpAny_handled ?_);rw[show A.in1.handled=none from hh];refine wX (wY (wpAny_throw ?_));refine wX (wpAny_isInstance (T:="StopIteration") (b:=true) ⟨_,vY _ rfl,rfl⟩ isSubtype_stop ?_);exact wY (hQ _ ((b1.extBut.push _).push _))
theorem lM {T:Addr}{pl:List Nat}{p:Nat}{x:Int×Value}{nt:Nat}{Q:Option Value->Shared->Prop}(ho:s.heap.get? it=some (iu (.ref T) i S es.size ep))
  (hT:s.heap.get? T=some (seqObj "tuple" (pl.map λ(p:Nat)=>Value.int p 0).toArray nt))
  (hS:s.heap.get? S=some o) (hd:o.data=.set es ep t) (hf:t.fits es.size=true) (hp:pl[i]? = some p) (hx:es[p]? = some x)
  (hQ:∀h',h'.get? it=some (iu (.ref T) (i+1) S es.size ep)->Heap.SameBut it s.heap h'->Q (some x.2) { s with heap:=h' }):
  wpAny (model prog w) A (pyNext (.ref it)) Q E s:=by
 unfold pyNext;refine wX (wpAny_attempt (wpAny_callSpecial?_slot (name:=Str.ofString "__next__") (c9 ho) aW
  (wpAny_call_entry aW (c9 ho) dn ?_ (dF _))))
 show wpAny _ _ (fieldsOf (.ref it)>>=_) _ _ s;refine wX (wpAny_fieldsOf ho rfl ?_);show wpAny _ _ (setEntries S>>=_) _ _ s;refine wX (wpAny_setEntries_of hS hd hf ?_);rw[if_neg (by simp)];show wpAny _ _ (seqItems? (.ref T)>>=_) _ _ s;refine wX (wpAny_seqItems hT rfl ?_);have e1:(pl.map λ(p:Nat)=>Value.int p 0).toArray[(i:Int).toNat]? = some (.int p 0):=by simp[hp]
 dsimp only;rw[e1];dsimp only;have e2:wpAny (model prog w) A.in1 (setNextDrawn S (p:Int).toNat (ep:Int).toNat) (λy s'=>y=x.2/\s'=s) (λ_ _=>False) s:=by
  unfold setNextDrawn;refine wX (wpAny_setState_of hS hd hf ?_);dsimp only;rw[if_neg (by simp)];simp only[Int.toNat_natCast,hx];exact wY ⟨rfl,rfl⟩
 refine wX (wpAny_mono e2 (λy s' hy=>?_) λ_ _ z=>z.elim);obtain⟨rfl,rfl⟩:=hy;refine wX (wpAny_setField_rec ho (by simp) λh1 e1 b1=>?_);exact wY ⟨_,rfl,wY (hQ h1 (by simpa [rawInt,iu]using e1) b1)⟩
theorem lN {T:Addr}{pl:List Nat}{nt:Nat}{Q:Option Value->Shared->Prop}(hh:A.handled=none)(ho:s.heap.get? it=some (iu (.ref T) i S es.size ep))
  (hT:s.heap.get? T=some (seqObj "tuple" (pl.map λ(p:Nat)=>Value.int p 0).toArray nt))
  (hS:s.heap.get? S=some o) (hd:o.data=.set es ep t) (hf:t.fits es.size=true) (hp:pl[i]? = none)
  (hQ:∀h',Heap.ExtBut it s.heap h'->Q none { s with heap:=h' }):
  wpAny (model prog w) A (pyNext (.ref it)) Q E s:=by
 unfold pyNext;refine wX (wpAny_attempt (wpAny_callSpecial?_slot (name:=Str.ofString "__next__") (c9 ho) aW
  (wpAny_call_entry aW (c9 ho) dn ?_ (dF _))))
 show wpAny _ _ (fieldsOf (.ref it)>>=_) _ _ s;refine wX (wpAny_fieldsOf ho rfl ?_);show wpAny _ _ (setEntries S>>=_) _ _ s;refine wX (wpAny_setEntries_of hS hd hf ?_);rw[if_neg (by simp)];show wpAny _ _ (seqItems? (.ref T)>>=_) _ _ s;refine wX (wpAny_seqItems hT rfl ?_);have e1:(pl.map λ(p:Nat)=>Value.int p 0).toArray[(i:Int).toNat]? = none:=by simpa using hp
 dsimp only;rw[e1];dsimp only;refine wX (wpAny_setField_rec ho (by simp) λh0 e0 b0=>?_);refine wX (wpAny_setField_rec e0 (by simp) λh1 e1 b1=>?_);refine wX ?_;simp only[newExc,newTuple];refine wX (wpAny_newObj_type ?_ (by size_fits));refine wX (m:=firstArgMember _ _) (wpAny_of_eq (a:=Value.none) (by first|rfl|(simp only[firstArgMember];rfl)) ?_);refine wpAny_newObj_type ?_ (by size_fits);simp only[raiseNew];refine wX (wpAny_handled ?_);rw[show A.in1.handled=none from hh];refine wX (wY (wpAny_throw ?_));refine wX (wpAny_isInstance (T:="StopIteration") (b:=true) ⟨_,vY _ rfl,rfl⟩ isSubtype_stop ?_);exact wY (hQ _ (((b0.trans b1).extBut.push _).push _))
theorem pf (ho:s.heap.get? it=some (iu HQ i S n ep))(h:Q (.ref it) s):wpAny (model prog w) A (pyIter (.ref it)) Q E s:=by
 refine wpAny_pyIter_slot (c9 ho) hJ (wpAny_call_entry hJ (c9 ho) kG ?_ (lL _));show wpAny _ _ (ret (.ref it)) _ _ s;exact wY ⟨_,rfl,"set_iterator",_,c9 ho,aW.lookup,h⟩
end
section
variable {prog:Program}{w:World}{A:Around}{E:Value->Shared->Prop}{s:Shared}{it S:Addr}{i k ep:Nat}{o:Obj}{es:Array (Int×Value)}{t:SetTable}
theorem mw (hS:s.heap.get? S=some o)(hd:o.data=.set es ep t)(hf:t.fits es.size=true)(hb:w.params.followText "set-order" = true)
  (h:Q (((pickOrder (w.params.setOrder S ep) es)[i]?).map λe=>(e.2,k)) s):wpAny (model prog w) A (setNext S k i ep) Q E s:=by
 unfold setNext;refine wX (wpAny_setState_of hS hd hf ?_);dsimp only;unfold setsByText;refine wX (wX (wpAny_askSetting (wY ?_)));show wpAny _ _ (if w.params.followText "set-order" = true then _ else _) _ _ _;rw[if_pos hb,if_neg (by simp)];unfold setWalk setsByText;refine wX (wX (wpAny_setState_of hS hd hf ?_));dsimp only;refine wX (wX (wpAny_askSetting (wY ?_)));show wpAny _ _ (if w.params.followText "set-order" = true then _ else _) _ _ _;rw[if_pos hb];refine wX (wpAny_askSetting (wY ?_));exact wY h
theorem kH (hS:s.heap.get? S=some o)(hd:o.data=.set es ep t)(hf:t.fits es.size=true)(hb:w.params.followText "set-order" = false)(hl:t.led=true)(hz:es.size<=1)
  (h:Q (match es[SetTable.below t.place k]?,t.place[SetTable.below t.place k]? with
   |some (_,x),some j=>some (x,j+1)
   |_,_=>none) s):wpAny (model prog w) A (setNext S k i ep) Q E s:=by
 unfold setNext;refine wX (wpAny_setState_of hS hd hf ?_);dsimp only;unfold setsByText;refine wX (wX (wpAny_askSetting (wY ?_)));show wpAny _ _ (if w.params.followText "set-order" = true then _ else _) _ _ _;rw[if_neg (by rw[hb];simp)];show wpAny _ _ (if(!t.plain && decide (es.size > 1))=true then _ else _) _ _ _;rw[if_neg (by rw[decide_eq_false (by omega)];simp)];show wpAny _ _ ((if(!t.led && !es.isEmpty)=true then unsupported "set:maker-not-led" else pure ())>>=_) _ _ _;rw[hl,if_neg (by simp)];refine wX (wY ?_);exact wY h
theorem mx (hh:A.handled=none)(hd:o.data=.set es ep t)(hf:t.fits es.size=true)(xO:S≠it)(vs:List Value)(hv:vs.length=es.size)(sl:Nat->Nat)
  (hN:∀i x,vs[i]? = some x->∀(A':Around)(E':Value->Shared->Prop)(s:Shared)(Q':Option (Value×Nat)->Shared->Prop),s.heap.get? S=some o->Q' (some (x,sl (i+1))) s->wpAny (model prog w) A' (setNext S (sl i) i ep) Q' E' s)
  (hE:∀(A':Around)(E':Value->Shared->Prop)(s:Shared)(Q':Option (Value×Nat)->Shared->Prop),s.heap.get? S=some o->Q' none s->wpAny (model prog w) A' (setNext S (sl es.size) es.size ep) Q' E' s):
  Walks prog w A it [it,S] [it] es.size (λi v=>vs[i]? = some v) (λi h=>h.get? it=some (iu (.int (sl i) 0) i S es.size ep)/\h.get? S=some o) where
 sub:=λb hb=>by simp at hb;simp[hb]
 frame:=λ_ _ _ st hk=>⟨hk it (by simp) _ st.1,hk S (by simp) _ st.2⟩
 item:=λi s Q E hi st hQ=>by
  obtain⟨x,hx⟩:∃x,vs[i]? = some x:=⟨_,vU (by omega)⟩;refine nK st.1 st.2 hd hf (λA' E' Q' q=>hN i x hx A' E' s Q' st.2 q) λh' h1 h2=>?_;exact hQ x h' s.toks hx ⟨h1,h2.extBut S _ xO st.2⟩ λb u hb e=>h2.extBut b u (λz=>hb (by simp[z])) e
 done:=λs Q E st hQ=>nL hh st.1 st.2 hd hf (λA' E' Q' q=>hE A' E' s Q' st.2 q) λh' h1=>hQ h' s.toks λb u hb e=>h1 b u (λz=>hb (by simp[z])) e
 self:=λ_ _ _ _ st hQ=>pf st.1 hQ
theorem qK {T:Addr}{pl:List Nat}{nt:Nat}(hh:A.handled=none)(hd:o.data=.set es ep t)(hf:t.fits es.size=true)(xO:S≠it)(L4:T≠it)(hp:pl.Perm (List.range es.size)):
  Walks prog w A it [it,S,T] [it] es.size (λi v=>(pl.map λp=>(es.getD p (0,.none)).2)[i]? = some v)
   (λi h=>h.get? it=some (iu (.ref T) i S es.size ep)/\h.get? S=some o/\h.get? T=some (seqObj "tuple" (pl.map λ(p:Nat)=>Value.int p 0).toArray nt)) where
 sub:=λb hb=>by simp at hb;simp[hb]
 frame:=λ_ _ _ st hk=>⟨hk it (by simp) _ st.1,hk S (by simp) _ st.2.1,hk T (by simp) _ st.2.2⟩
 item:=λi s Q E hi st hQ=>by
  have bS:pl.length=es.size:=by rw[hp.length_eq,List.length_range]
  obtain⟨p,hx⟩:∃p,pl[i]? = some p:=⟨_,vU (by omega)⟩;have L5:p<es.size:=List.mem_range.mp (hp.mem_iff.mp (List.mem_of_getElem? hx));have he:es[p]? = some (es.getD p (0,.none)):=by rw[Array.getD_eq_getD_getElem?,Array.getElem?_eq_getElem L5];rfl
  refine lM st.1 st.2.2 st.2.1 hd hf hx he λh' h1 h2=>?_;exact hQ _ h' s.toks (by simp[hx]) ⟨h1,h2.extBut S _ xO st.2.1,h2.extBut T _ L4 st.2.2⟩ λb u hb e=>h2.extBut b u (λz=>hb (by simp[z])) e
 done:=λs Q E st hQ=>by
  have bS:pl.length=es.size:=by rw[hp.length_eq,List.length_range]
  exact lN hh st.1 st.2.2 st.2.1 hd hf (List.getElem?_eq_none (by omega)) λh' h1=>hQ h' s.toks λb u hb e=>h1 b u (λz=>hb (by simp[z])) e
 self:=λ_ _ _ _ st hQ=>pf st.1 hQ
end
theorem qL {α:Type}(es:Array α)(d:α):(List.range es.size).map (λp=>es.getD p d)=es.toList:=by
 apply List.ext_getElem?;intro i;by_cases h:i<es.size
 ·simp[h,Array.getD_eq_getD_getElem?]
 ·simp[h]
section
variable {prog:Program}{w:World}{A:Around}{E:Value->Shared->Prop}{s:Shared}
theorem my (h:xs=#[j]):SetTable.below xs k=if j<k then 1 else 0:=by
 subst h;by_cases h:j<k
 ·simp[SetTable.below,SetTable.below.go,h]
 ·simp[SetTable.below,SetTable.below.go,h]
theorem wd {S:Addr}{ts:List Str}{Q:Value->Shared->Prop}(hS:fm prog w s.heap S ts)
  (hQ:∀(h':Heap)(d:Drawn)(it:Addr)(vs:List Value)(fp:List Addr)(St:Nat->Heap->Prop),(∀A',A'.handled=none->Walks prog w A' it fp [it] ts.length (λi v=>vs[i]? = some v) St)->St 0 h' ->
   (∀b u,s.heap.get? b=some u->h'.get? b=some u)->s.heap.objs.size<=it->(∀b∈fp,b=S∨s.heap.objs.size<=b)->vs.length=ts.length->(vs.map strOf).Perm ts->(∀v∈vs,∃x t,v=.str x t) ->
   Q (.ref it) { s with heap:=h',drawn:=d }):wpAny (model prog w) A (pyIter (.ref S)) Q E s:=by
 obtain⟨o,es,ep,t,ho,u6,hd,xP,hp,nd,hb,hf,zJ,hpl⟩:=hS;have sz:es.size=ts.length:=by rw[←hp.length_eq,vH,vF]
 have Cr:S<s.heap.objs.size:=vX ho;have J9:s.TypeIs (.ref S) "set":=⟨_,ho,u6.1⟩;have xE:∀e∈es.toList,∃x t,e.2=.str x t:=λe he=>by
  obtain⟨⟨k,hk,_⟩,_⟩:=xP e he;obtain⟨t,q⟩:=Value.isStrOf_shape (show Value.isStrOf k e.2=true from hk);exact⟨k,t,q⟩
 refine wpAny_pyIter_slot J9 PySem.F.slot_set_iter (wpAny_call_entry PySem.F.slot_set_iter J9 jQ ?_ (PySem.F.args_set_iter_1 _));show wpAny _ _ (Builtin.Frozenset.sizeOf S>>=_) _ _ s;unfold Builtin.Frozenset.sizeOf;refine wX (wX (wpAny_setEntries_of ho hd hf (wY ?_)));unfold setDrawn setsByText;refine wX (wX (wpAny_setState_of ho hd hf ?_));dsimp only;refine wX (wX (wpAny_askSetting (wY (wY ?_))));show wpAny _ _ (if(!w.params.followText "set-order" && (!t.plain && decide (es.size > 1)))=true then _ else _) _ _ _;have Cs:(es.toList.map (·.2)).map strOf=es.toList.map (λe=>strOf e.2):=by rw[List.map_map];rfl
 by_cases AD:w.params.followText "set-order" = true
 ·rw[if_neg (by rw[AD];simp)];refine wX (wY ?_);refine wX (wpAny_setEpoch_of ho hd hf ?_);have pp:=tM (w.params.setOrder S ep) es;have bS:((pickOrder (w.params.setOrder S ep) es).toList.map (·.2)).length=es.size:=by rw[vH,pp.length_eq,vF]
  refine wX (wpAny_newObj_type (wY ⟨_,rfl,"set_iterator",_,⟨_,vY _ rfl,rfl⟩,aW.lookup,?_⟩));refine hQ _ s.drawn s.heap.objs.size ((pickOrder (w.params.setOrder S ep) es).toList.map (·.2)) [s.heap.objs.size,S] (λi h=>h.get? s.heap.objs.size=some (iu (.int ((λ_=>0:Nat->Nat) i:Nat) 0) i S es.size ep)/\h.get? S=some o) (λA' hA=>?_) ?_ (λb u e=>vZ _ e) (vT _) (λb hb=>?_) (bS.trans sz) ?_ ?_
  ·rw[←sz];exact mx hA hd hf (vS Cr) _ bS (λ_=>0) (λi x hx A' E' s Q' h1 h2=>mw h1 hd hf AD (by
    rw[vA,Array.getElem?_toList]at hx;obtain⟨e,he,rfl⟩:=oY hx;rw[he];exact h2)) (λA' E' s Q' h1 h2=>mw h1 hd hf AD (by
    rw[Array.getElem?_eq_none (by rw[←vF,pp.length_eq,vF];exact vT _)];exact h2))
  ·exact⟨vY _ rfl,vZ _ ho⟩
  ·simp only[List.mem_cons,List.not_mem_nil,or_false]at hb;rcases hb with rfl|rfl
   ·exact .inr (vT _)
   ·exact .inl rfl
  ·refine List.Perm.trans ?_ hp;rw[←Cs];exact(pp.map _).map _
  ·intro v hv;obtain⟨e,he,rfl⟩:=vO hv;exact xE e (pp.mem_iff.mp he)
 ·rw[Bool.not_eq_true]at AD;have hl:t.led=true:=by rw[zJ,AD];rfl
  by_cases h1:es.size<=1
  ·rw[if_neg (by rw[decide_eq_false (by omega)];simp)];refine wX (wY ?_);refine wX (wpAny_setEpoch_of ho hd hf ?_);refine wX (wpAny_newObj_type (wY ⟨_,rfl,"set_iterator",_,⟨_,vY _ rfl,rfl⟩,aW.lookup,?_⟩));have Mz:t.place.size=es.size:=by
    simp only[SetTable.fits,vC,beq_iff_eq,decide_eq_true_eq]at hf;exact hf.1
   refine hQ _ s.drawn s.heap.objs.size (es.toList.map (·.2)) [s.heap.objs.size,S] (λi h=>h.get? s.heap.objs.size=some (iu (.int ((λi=>if i=0 then 0 else t.place.getD 0 0+1:Nat->Nat) i:Nat) 0) i S es.size ep)/\h.get? S=some o) (λA' hA=>?_) ?_ (λb u e=>vZ _ e) (vT _) (λb hb=>?_) (by rw[vH,vF,sz]) (by rw[Cs];exact hp) ?_
   ·rw[←sz];refine mx hA hd hf (vS Cr) _ (by simp) (λi=>if i=0 then 0 else t.place.getD 0 0+1) (λi x hx A' E' s Q' q1 q2=>kH q1 hd hf AD hl h1 ?_) (λA' E' s Q' q1 q2=>kH q1 hd hf AD hl h1 ?_)
    ·have hi:i<es.size:=by have:=(vV hx).1;simpa using this
     have L6:i=0:=by omega
     subst L6;obtain⟨j,hj⟩:∃j,t.place=#[j]:=Array.size_eq_one_iff.mp (by omega);rw[if_pos rfl,my hj,if_neg (by omega)];rw[vA,Array.getElem?_toList]at hx;obtain⟨e,he,rfl⟩:=oY hx;rw[he];simp only[hj]at q2 ⊢;simpa using q2
    ·by_cases h0:es.size=0
     ·have HR:t.place=#[]:=Array.eq_empty_of_size_eq_zero (by omega);have L7:es=#[]:=Array.eq_empty_of_size_eq_zero h0;rw[HR,L7];simpa using q2
     ·obtain⟨j,hj⟩:∃j,t.place=#[j]:=Array.size_eq_one_iff.mp (by omega);rw[if_neg h0,my hj];have:t.place.getD 0 0=j:=by rw[hj];rfl
      rw[this,if_pos (by omega),Array.getElem?_eq_none (by omega)];exact q2
   ·exact⟨vY _ rfl,vZ _ ho⟩
   ·simp only[List.mem_cons,List.not_mem_nil,or_false]at hb;rcases hb with rfl|rfl
    ·exact .inr (vT _)
    ·exact .inl rfl
   ·intro v hv;obtain⟨e,he,rfl⟩:=vO hv;exact xE e he
  ·have HR:t.plain=false:=hpl (by omega);rw[if_pos (by rw[AD,HR,decide_eq_true (by omega)];rfl)];refine wX (sk es.size (List.range es.size) _ _ (by simp) λpl d pp=>?_);refine wX (wpAny_newTuple ?_ (by rw[vH,pp.length_eq,List.length_range,sz];exact fits_of_scanBound hb));refine wX (wpAny_setEpoch_of (vZ _ ho) hd hf ?_);refine wX (wpAny_newObj_type (wY ⟨_,rfl,"set_iterator",_,⟨_,vY _ rfl,rfl⟩,aW.lookup,?_⟩));have hsz:(s.heap.push (seqObj "tuple" (pl.map λ(p:Nat)=>Value.int p 0).toArray 0)).objs.size=s.heap.objs.size+1:=size_push' _ _;have fg:((pl.map λp=>(es.getD p (0,.none)).2)).Perm (es.toList.map (·.2)):=by
    have:=(pp.map λp=>es.getD p (0,Value.none)).map (·.2);rw[qL]at this;rw[List.map_map]at this;exact this
   refine hQ _ d _ (pl.map λp=>(es.getD p (0,.none)).2) [(s.heap.push (seqObj "tuple" (pl.map λ(p:Nat)=>Value.int p 0).toArray 0)).objs.size,S,s.heap.objs.size] (λi h=>h.get? (s.heap.push (seqObj "tuple" (pl.map λ(p:Nat)=>Value.int p 0).toArray 0)).objs.size=some (iu (.ref s.heap.objs.size) i S es.size ep)/\h.get? S=some o/\h.get? s.heap.objs.size=some (seqObj "tuple" (pl.map λ(p:Nat)=>Value.int p 0).toArray 0)) (λA' hA=>?_) ?_ (λb u e=>vZ _ (vZ _ e)) ?_ (λb hb=>?_) ?_ ?_ ?_
   ·rw[←sz];exact qK (nt:=0) hA hd hf (by show S≠(s.heap.push _).objs.size;rw[size_push'];exact vS (Nat.lt_succ_of_lt Cr)) (by show s.heap.objs.size≠(s.heap.push _).objs.size;rw[size_push'];exact vS (Nat.lt_succ_self _)) pp
   ·exact⟨vY _ rfl,vZ _ (vZ _ ho),vZ _ (vY _ rfl)⟩
   ·show s.heap.objs.size<=(s.heap.push _).objs.size;rw[size_push'];omega
   ·simp only[List.mem_cons,List.not_mem_nil,or_false]at hb;rcases hb with rfl|rfl|rfl
    ·refine .inr ?_;show s.heap.objs.size<=(s.heap.push _).objs.size;rw[size_push'];omega
    ·exact .inl rfl
    ·exact .inr (vT _)
   ·rw[fg.length_eq,vH,vF,sz]
   ·exact((fg.map strOf).trans (by rw[Cs])).trans hp
   ·intro v hv;obtain⟨e,he,rfl⟩:=vO (fg.mem_iff.mp hv);exact xE e he
end
theorem tN (h:ItemsOf (λi v=>vs[i]? = some v) je vs.length):je.toList=vs:=by
 apply List.ext_getElem?;intro i;by_cases hi:i<je.size
 ·have e:je[i]? = some je[i]:=Array.getElem?_eq_getElem hi;rw[Array.getElem?_toList,e,h.2 i _ e]
 ·rw[List.getElem?_eq_none (by rw[vF];omega),List.getElem?_eq_none (by rw[←h.1];omega)]
section
variable {prog:Program}{w:World}{A:Around}{E:Value->Shared->Prop}{s:Shared}
theorem ph (hh:A.handled=none)(hS:fm prog w s.heap S ts)
  (hQ:∀s' vs,(∀b u,s.heap.get? b=some u->s'.heap.get? b=some u)->s'.gens=s.gens->s'.os=s.os->vs.length=ts.length->(vs.map strOf).Perm ts->(∀v∈vs,∃x t,v=.str x t)->Q vs s'):
  wpAny (model prog w) A (collect (.ref S)) Q E s:=by
 have CN:∀(s1:Shared),fm prog w s1.heap S ts->s1.TypeIs (.ref S) "set":=λs1 h=>by
  obtain⟨o,_,_,_,ho,u6,_⟩:=h;exact⟨o,ho,u6.1⟩
 have fG:S<s.heap.objs.size:=by obtain⟨o,_,_,_,ho,_⟩:=hS;exact vX ho
 have Fb:ts.length<scanBound:=by obtain⟨_,_,_,_,_,_,_,_,_,_,h,_⟩:=hS;exact h
 unfold collect;refine wX (wpAny_runValue (codeAny_builtin PySem.F.entry_proto_collect ?_));rw[Around.under_plainId PySem.F.plain_proto_collect _];show wpAny _ A.in1 (newList []>>=λl=>again (.builtin "list.__iadd__" ⟨[l,.ref S],[]⟩)) _ _ s;refine wX (wpAny_newObj_type ?_);refine wY ⟨plainId_quiet PySem.F.plain_list_iadd _,codeAny_builtin PySem.F.entry_list_iadd ?_⟩;rw[Around.under_plainId PySem.F.plain_list_iadd _];show wpAny _ A.in1 (Builtin.List.listExtendWith (.ref s.heap.objs.size) (.ref S) (.ref s.heap.objs.size)) _ _ _;unfold Builtin.List.listExtendWith;have HS:fm prog w (s.heap.push { cls:=.type "list",data:=.seq ([]:List Value).toArray }) S ts:=hS.at λo e=>vZ _ e;refine wX (wpAny_typeOf (CN _ HS) ?_);have JB:s.heap.objs.size≠S:=Nat.ne_of_gt fG;have h1:Builtin.List.listSameRef (.ref s.heap.objs.size) (.ref S)=false:=by simp[Builtin.List.listSameRef,JB]
 have h2:(Value.type "set" == Value.type "list")=false:=by decide
 have h3:(Value.type "set" == Value.type "tuple")=false:=by decide
 simp only[h1,h2,h3,Bool.or_false,uV,if_false];refine wX (wd (s:={ s with heap:=s.heap.push { cls:=.type "list",data:=.seq ([]:List Value).toArray } }) HS λh' d it vs fp St W jg hk Gf hfp Cj fg hstr=>?_);have AB:fm prog w h' S ts:=HS.at λo e=>hk _ _ e;refine wX (wpAny_holding ?_);unfold Builtin.List.listLengthHint;refine wX (wpAny_specialOf (CN _ AB) PySem.F.slot_set_len.lookup ?_);wp_delta;refine wX (wpAny_isInstance (CN _ AB) sub_set_self ?_);show wpAny _ A.in1 (typeOf (Value.ref S)>>=_) _ _ _;refine wX (wpAny_typeOf (CN _ AB) ?_);refine wY ?_;rw[if_pos (by decide)];refine wX (wpAny_rule ?_);refine wX ?_;have Fc:(s.heap.push { cls:=.type "list",data:=.seq ([]:List Value).toArray }).objs.size=s.heap.objs.size+1:=size_push' _ _;have JD:h'.get? s.heap.objs.size=some { cls:=.type "list",data:=.seq ([]:List Value).toArray }:=hk _ _ (vY _ rfl);show wpAny _ A.in1 (updateSeq s.heap.objs.size (·.push .none)>>=λ_=>updateSeq s.heap.objs.size (·.pop)) _ _ _;refine wX (wpAny_updateSeq JD rfl ?_);have JF:=Heap.get?_update_self (Obj.mapSeq (·.push Value.none)) JD rfl;refine wpAny_updateSeq JF rfl ?_;have L8:=Heap.get?_update_self (Obj.mapSeq (·.pop)) JF rfl;have sU:s.heap.objs.size∉fp:=λhm=>by
  rcases hfp _ hm with z|z
  ·exact JB z
  ·rw[Fc]at z;exact absurd z (Nat.not_succ_le_self _)
 have JG:∀b u,b≠s.heap.objs.size->h'.get? b=some u ->
   ((h'.update s.heap.objs.size (Obj.mapSeq (·.push Value.none))).update s.heap.objs.size (Obj.mapSeq (·.pop))).get? b=some u :=
  λb u hb e=>(Heap.get?_update_other _ _ (Ne.symm hb)).trans ((Heap.get?_update_other _ _ (Ne.symm hb)).trans e)
 have W0:=W A.in1 hh;refine wY ⟨plainId_quiet PySem.F.plain_extend_loop _,codeAny_extend_loopS W0.toS (fits_of_scanBound Fb) _ sU _ ts.length 0 _ _ _ rfl (uN _)
  (W0.frame 0 _ _ jg λb hb u e=>JG b u (λz=>sU (z ▸ hb)) e) L8 (ItemsOf.nil _) λs' acc' c' hm hL' hacc=>?_⟩
 show wpAny _ A (load s.heap.objs.size>>=_) _ _ s';refine wX (wpAny_load hL' ?_);rw[←Cj]at hacc;refine wY ?_;show Q acc'.toList s';rw[tN hacc];refine hQ s' vs (λb u e=>hm.heap b u (λhb=>?_) (JG b u (vS (vX e)) (hk _ _ (vZ _ e)))) hm.gens hm.os Cj fg hstr;have hl:=vX e;simp only[List.mem_cons,List.not_mem_nil,or_false]at hb;rcases hb with rfl|rfl
 ·exact absurd hl (Nat.lt_irrefl _)
 ·rw[Fc]at Gf;exact absurd (vQ hl (Nat.le_of_succ_le Gf)) (Nat.lt_irrefl _)
theorem qM (hh:A.handled=none)(hS:fm prog w s.heap S ts)(AE:ts.length<64)
  (hQ:∀(s1:Shared)(h':Heap)(a:Addr)(out:Array Value)(n:Nat)(CQ:List Str),(∀b u,s.heap.get? b=some u->s1.heap.get? b=some u)->s1.os=s.os->s1.gens=s.gens->(∀b u,s1.heap.get? b=some u->h'.get? b=some u)->s1.heap.objs.size<=a->h'.get? a=some (seqObj "list" out n) ->
   StrsAre out.toList CQ->CQ.Perm ts->sortedS CQ=true->Q (.ref a) { s1 with heap:=h' }):
  wpAny (model prog w) A (call (.builtin "sorted") [.ref S]) Q E s:=by
 refine Calls.call_function_entry kind_sorted plain_sorted entry_sorted (args_sorted1 _) ?_;unfold Builtin.«sorted»;refine wX (m:=checkCount "sorted" 1 1 _) (wY ?_);refine wX (ph (A:=A.in1) (by exact hh) hS λs1 vs hk hg z6 Cj fg hstr=>?_);have jg:StrsAre vs (vs.map strOf):=strsAre_map vs hstr;refine wX (wpAny_newList ?_ (by rw[Cj,sizeLine_eq];omega));have E4:(s1.heap.push (seqObj "list" vs.toArray 0)).get? s1.heap.objs.size=some (seqObj "list" vs.toArray 0):=vY _ rfl;show wpAny _ _ _ _ _ { s1 with heap:=s1.heap.push (seqObj "list" vs.toArray 0) };refine wX (wpAny_holding (wpAny_call_entry slot_list_sort ⟨_,E4,rfl⟩ entry_list_sort (list_sort_treeK strKind_oneLt E4 jg.keysOf (λv₁ v₂ ay e=>keyKind_strs (by rw[←e];exact jg)) (by rw[Cj];exact AE) λoi a1 a2=>⟨_,rfl,?_⟩) (args_list_sort _)));obtain⟨CQ,b1,b2,b3⟩:=sorted_out_str jg a1 a2;obtain⟨e,he⟩:=sortedHeap_at (out:=(arrOf oi).map (·.2)) E4;refine wY ⟨_,rfl,hQ s1 _ _ _ e CQ hk z6 hg (λb u q=>?_) (vT _) he b1 (b2.trans fg) b3⟩;have hl:=vX q;rw[sortedHeap_old (vS hl) (by rw[size_push'];exact Nat.lt_succ_of_lt hl)];exact vZ _ q
end
end DL
namespace DL
open PySem PySem.Spec PyProof.Rows L2
def nM (a b:Str):Prop:=¬b.cps.toList<a.cps.toList
theorem sr:ltCps b.cps.toList a.cps.toList=false↔nM a b:=by rw[ltCps_eq,decide_eq_false_iff_not];rfl
theorem mz (h:nM a b)(k:nM b c):nM a c:=by
 unfold nM at *;exact List.not_lt.mpr (List.le_trans (List.not_lt.mp h) (List.not_lt.mp k))
theorem we (h:nM a b)(k:nM b a):a=b:=by
 have e:a.cps.toList=b.cps.toList:=List.le_antisymm (List.not_lt.mp h) (List.not_lt.mp k);obtain⟨a⟩:=a;obtain⟨b⟩:=b;have:a=b:=Array.toList_inj.mp e;rw[this]
noncomputable def qN (x:Str):List Str->List Str
 |[]=>[x]
 |y::r=>if ltCps y.cps.toList x.cps.toList then y::qN x r else x::y::r
noncomputable def iR (l:List Str):List Str:=l.foldr qN []
theorem jq (x:Str):∀l,(qN x l).Perm (x::l)
 |[]=>List.Perm.refl _
 |y::r=>by
  unfold qN;split
  ·exact((jq x r).cons y).trans (List.Perm.swap x y r)
  ·exact List.Perm.refl _
theorem eM:∀l,(iR l).Perm l
 |[]=>List.Perm.refl _
 |x::l=>(jq x (iR l)).trans ((eM l).cons x)
theorem m4 (x:Str):∀l,l.Pairwise nM->(qN x l).Pairwise nM
 |[],_=>by simp[qN]
 |y::r,h=>by
  obtain⟨h1,h2⟩:=List.pairwise_cons.mp h;unfold qN;split
  ·rename_i hl;refine List.pairwise_cons.mpr ⟨λz hz=>?_,m4 x r h2⟩;rcases vP ((jq x r).mem_iff.mp hz)with rfl|hz
   ·rw[ltCps_eq,decide_eq_true_eq]at hl;exact λk=>List.lt_irrefl _ (List.lt_trans hl k)
   ·exact h1 z hz
  ·rename_i hl;rw[Bool.not_eq_true]at hl;have Gg:nM x y:=sr.mp hl;refine List.pairwise_cons.mpr ⟨λz hz=>?_,h⟩;rcases vP hz with rfl|hz
   ·exact Gg
   ·exact mz Gg (h1 z hz)
theorem kI:∀l,(iR l).Pairwise nM
 |[]=>List.Pairwise.nil
 |x::l=>m4 x _ (kI l)
theorem j7:∀(l:List Str)(p:Str),risingS p l=true->(p::l).Pairwise nM
 |[],p,_=>List.pairwise_singleton _ _
 |x::r,p,h=>by
  have h':(!ltCps x.cps.toList p.cps.toList && risingS x r)=true:=h;rw[vC]at h';have JH:nM p x:=sr.mp (by simpa using h'.1);have ih:=j7 r x h'.2;refine List.pairwise_cons.mpr ⟨λz hz=>?_,ih⟩;rcases vP hz with rfl|hz
  ·exact JH
  ·exact mz JH ((List.pairwise_cons.mp ih).1 z hz)
theorem pi:∀(l:List Str),sortedS l=true->l.Pairwise nM
 |[],_=>List.Pairwise.nil
 |x::r,h=>j7 r x h
theorem pj (a:Str):nM a a:=List.lt_irrefl _
theorem kJ:∀(l1 l2:List Str),l1.Perm l2->l1.Pairwise nM->l2.Pairwise nM->l1=l2
 |[],l2,p,_,_=>(List.nil_perm.mp p).symm
 |x::r1,[],p,_,_=>absurd p.length_eq (by simp)
 |x::r1,y::r2,p,h1,h2=>by
  have Gg:nM x y:=by
   rcases vP (p.mem_iff.mpr (mX ..))with z|z
   ·rw[z];exact pj _
   ·exact(List.pairwise_cons.mp h1).1 y z
  have LA:nM y x:=by
   rcases vP (p.mem_iff.mp (mX ..))with z|z
   ·rw[z];exact pj _
   ·exact(List.pairwise_cons.mp h2).1 x z
  have e:=we Gg LA;subst e;rw[kJ r1 r2 (List.Perm.cons_inv p) (List.pairwise_cons.mp h1).2 (List.pairwise_cons.mp h2).2]
theorem tO (p:l'.Perm l)(h:sortedS l'=true):l'=iR l:=kJ _ _ (p.trans (eM l).symm) (pi _ h) (kI l)
section
variable {X:Cx}
noncomputable def pk (X:Cx)(S:Addr)(ts:List Str):HO:=.ext λh=>fm X.prog X.w h S ts
theorem tP (I:Inv X ac σ H s)(k:∀b u,s.heap.get? b=some u->s1.heap.get? b=some u)(ho:s1.os=s.os)(hg:s1.gens=s.gens):Inv X ac σ H s1:=by
 have I1:=I.step (g':=s.gens) (d':=s1.drawn) (t':=s1.toks) (h':=s1.heap) (H':=H) (ch:=[]) (λ_ z=>nomatch z) (λb o _ _ _ e _=>k b o e) (λb o _ _ _ e _=>⟨o.slots,k b o e⟩) (λ_ _ _ _ n=>n)
  (λb o _ e=>⟨o,k b o e⟩) (λ_ _ e=>e) (λ_ _ _ e=>e) (λ_ _ e=>e) (λm hm=>?_) (I.hok.kept k) I.bare
 ·obtain⟨h1,g1,d1,t1,o1⟩:=s1;cases ho;cases hg
  exact I1
 ·obtain⟨o,es,ep,ho,r⟩:=hm;exact⟨o,es,ep,k _ o ho,r⟩
theorem j8 (hc:X.calm=true):bM X (.type "set") (λxs H Q=>∃p ys ss,xs=[.ref p]/\fZ X.K H p ys/\(∀its,aT ys its->StrsAre its ss)/\ss.length<4000/\∀S,H S=none->Q (.ref S) (upd H S (pk X S (dP ss)))):=by
 intro ac s σ H xs us Q I r h;obtain⟨p,ys,ss,rfl,hq,hs,AE,q⟩:=h;obtain⟨u,rfl,rx⟩:=kj r;cases rx
 obtain⟨its,r',pl,hz⟩:=I.list hq;have jg:=hs its r';have bS:its.length=ss.length:=by rw[←jg.strs,vH]
 refine kF (I.ok.hd hc) pl.isList (by simpa using jg) (by simp only[vG];unfold scanBound;omega) λh' tk hS hk=>?_;refine⟨.ref s.heap.objs.size,_,I.laid (t':=tk) (λb u e=>hk b u (vX e) e) (vT _) ?_,rfl,q _ (I.hok.fresh (vT _))⟩;refine⟨hS,?_,λh1 h2 z k=>z.at k⟩;obtain⟨o,_,_,_,ho,_⟩:=hS;exact⟨o,ho⟩
theorem jR (hc:X.calm=true):bM X (.builtin "sorted") (λxs H Q=>∃S ts,xs=[.ref S]/\H S=some (pk X S ts)/\ts.length<64/\∀l,H l=none->Q (.ref l) (upd H l (.lst ((iR ts).map .str)))):=by
 intro ac s σ H xs us Q I r h;obtain⟨S,ts,rfl,hS,AE,q⟩:=h;obtain⟨u,rfl,rx⟩:=kj r;cases rx
 have hT:fm X.prog X.w s.heap S ts:=(I.hok S _ hS).1;refine qM (I.ok.hd hc) hT AE λs1 h' a out n CQ k1 ho hg k2 hp he jg fg hso=>?_;have e:=tO fg hso;subst e;have I1:=tP I k1 ho hg;have hv:∀ {its:List Value}{zs:List Str},StrsAre its zs->aT (zs.map V.str) its:=λz=>by
  induction z with
  |nil=>exact .nil
  |cons x t _ ih=>exact .cons ⟨t,rfl⟩ ih
 refine⟨.ref a,_,I1.laid (t':=s1.toks) k2 hp (show bC X.prog X.w _ h' _ (.lst _)from ⟨?_,out.toList,n,hv jg,he⟩),rfl,q _ (I1.hok.fresh hp)⟩;rw[vH,(eM ts).length_eq,sizeLine_eq];omega
end
@[simp] def iS:D->OB
 |.lst ds=>(gH ds).bind λss=>if ss.length<64 then some (.lst ((iR (dP ss)).map .str),true)else none
 |_=>none
@[simp] def iT:D->OB
 |.lst ds=>(gH ds).bind λss=>if ss.length<4000 then some (.int ((dP ss).length:Nat),false)else none
 |_=>none
theorem wg:bootBuiltins "sorted" = some (.builtin "sorted"):=by decide +kernel
theorem Ao:bootBuiltins "set" = some (.type "set"):=by decide +kernel
theorem kK {K:Frag}{N:Hp}:∀(zs:List Str),IsL K N (zs.map V.str) (zs.map D.str)
 |[]=>.nil
 |z::zs=>.cons (.str z) (kK zs)
section
variable {X:Cx}{e:Expr}{pos pos2 p p2:Pos}
theorem qO (hc:X.calm=true)(m1:X.mg "sorted" = none)(m2:X.mg "set" = none)(he:JE X e f)(g1:Gl X "sorted":=by rfl)(g2:Gl X "set":=by rfl)
  (h1:starEach [e] X.env=(false,eval e X.env)::starEach [] X.env:=by rfl):JE X (.Call (.Name "sorted" p) [.Call (.Name "set" p2) [e] [] pos2] [] pos) (f1 iS f):=by
 refine PE.to (fJ (jR hc) g1 m1 wg (bI (jj (j8 hc) g2 m2 Ao (bI he cS h1) (he:=h1)) cS)) λσ H Q q=>?_;obtain⟨B,ρ,d',bb,sB,r,ee,q⟩:=q;obtain⟨x1,ex,ee⟩:=oX ee;refine⟨B,ρ,x1.1,x1.2,sB,r,ex,λv H1 N1 xt i1 fr=>?_⟩;obtain⟨xd,xb⟩:=x1;cases i1<;>try (simp[iS]at ee;done)
 rename_i l0 vs ds h hl;simp only[iS]at ee;obtain⟨ss,ez,ee⟩:=oX ee;split at ee
 ·rename_i AE;cases ee
  refine⟨_,_,ss,rfl,xt.nh.seq h,λits r'=>iM r' hl ez,by omega,λS hS=>⟨S,_,rfl,aw,Nat.lt_of_le_of_lt (kE ss) AE,λl sR=>?_⟩⟩;have x2:=Ext.laid (o:=pk X S (dP ss)) xt.nh hS;have x3:=Ext.laid (o:=.lst ((iR (dP ss)).map V.str)) x2.nh sR;have LB:H l=none:=((xt.trans x2).hh).free sR;exact q _ _ _ ((xt.trans x2).trans x3) (.lst (fZ.of aw) (kK _)) λ_=>⟨_,_,_,rfl,rfl,LB,aw,kK _⟩
 ·cases ee
end
end DL
namespace DL
open PySem PySem.Spec PySem.W PyProof.Rows
inductive Run (n:Nat)(lt:Nat->Nat->Bool){α:Type}:KasT α->α->Prop where
 |ret (a:α):Run n lt (.ret a) a
 |ask {i j:Nat}{k:Bool->KasT α}{a:α}(hi:i<n) (hj:j<n) (h:Run n lt (k (lt i j)) a):Run n lt (.ask i j k) a
theorem Run.bind {n:Nat}{lt:Nat->Nat->Bool}{α β:Type}{t:KasT α}{f:α->KasT β}{a:α}{b:β}(h:Run n lt t a)(k:Run n lt (f a) b):Run n lt (t.bind f) b:=by
 induction h with
 |ret a=>exact k
 |ask hi hj _ ih=>exact .ask hi hj (ih k)
section
variable {n:Nat}{rk:Nat->Int}
structure Arr (n:Nat)(p:Array Nat):Prop where
 size:p.size=n
 perm:p.toList.Perm (List.range n)
theorem Arr.lt {p:Array Nat}(h:Arr n p){k:Nat}(hk:k<n):p.getD k 0<n:=by
 have xB:k<p.size:=by rw[h.size];exact hk
 have:p.getD k 0=p[k]:=by rw[Array.getD_eq_getD_getElem?,Array.getElem?_eq_getElem xB];rfl
 rw[this];exact List.mem_range.mp (h.perm.mem_iff.mp (by simp))
end
section
variable {α:Type}(f:α->List Int)
noncomputable def DT (x:α):List α->List α
 |[]=>[x]
 |y::r=>if f y<f x then y::DT x r else x::y::r
noncomputable def DU (l:List α):List α:=l.foldr (DT f) []
end
inductive At where
 |i (n:Int)
 |s (z:Str)
noncomputable def Kq:At->List Int
 |.i n=>[n]
 |.s z=>z.cps.toList.map (λ(c:Nat)=>(c:Int)+1)++[0]
noncomputable def DV (xs:List At):List Int:=xs.flatMap Kq
noncomputable def BF:List At->List At->Option Bool
 |[],ys=>some (!ys.isEmpty)
 |_::_,[]=>some false
 |.i a::xs,.i b::ys=>if a=b then BF xs ys else some (decide (a<b))
 |.s a::xs,.s b::ys=>if a=b then BF xs ys else some (decide (a.cps.toList<b.cps.toList))
 |_::_,_::_=>none
noncomputable def DW (ks:List (List At)):Bool:=ks.all λx=>ks.all λy=>(BF x y).isSome
def Kr:At->Value->Prop
 |.i n,v=>∃t,v=.int n t
 |.s z,v=>∃t,v=.str z t
def DX (h:Heap)(xs:List At)(v:Value):Prop:=∃a o its n,v=.ref a/\h.get? a=some o/\o.cls=.type "tuple"/\o.data=.seq its n/\Paired Kr xs its.toList
noncomputable def wj (ks:List (List At)):Bool:=ks.all (λx=>match x with|.i _::_=>true|_=>false) || ks.all (λx=>match x with|.s _::_=>true|_=>false)
end DL
namespace DL
open PySem PySem.Spec PySem.W PyProof.Rows L2
noncomputable def DY:D->Option At
 |.int n=>some (.i n)
 |.str z=>some (.s z)
 |_=>none
def qP:List D->Option (List At)
 |[]=>some []
 |d::ds=>(DY d).bind λa=>(qP ds).map (a :: ·)
def GK:D->Option (List At)
 |.tup es=>qP es
 |_=>none
def Ap:List D->Option (List (List At))
 |[]=>some []
 |d::ds=>(GK d).bind λa=>(Ap ds).map (a :: ·)
end DL
namespace DL
open PySem PySem.Spec PyProof.Rows L2
section
variable {X:Cx}{e:Expr}{pos pos2 p p2:Pos}
theorem lO:bM X (.builtin "len") (λxs H Q=>∃S ts,xs=[.ref S]/\H S=some (pk X S ts)/\Q (.int (ts.length:Nat)) H):=by
 intro ac s σ H xs us Q I r h;obtain⟨S,ts,rfl,hS,q⟩:=h;obtain⟨u,rfl,rx⟩:=kj r;cases rx
 have hT:fm X.prog X.w s.heap S ts:=(I.hok S _ hS).1;obtain⟨o,es,ep,t,ho,u6,hd,xP,hp,nd,hb,hf,_⟩:=hT;have sz:es.size=ts.length:=by rw[←hp.length_eq,vH,vF]
 have M0:ts.length<4096:=hb;exact PySem.call_len_set ho u6 hd hf (by rw[sz];omega) ⟨.int (ts.length:Nat),H,I.tok _,⟨_,by rw[sz]⟩,q⟩
theorem tQ (hc:X.calm=true)(m1:X.mg "len" = none)(m2:X.mg "set" = none)(he:JE X e f)(g1:Gl X "len":=by rfl)(g2:Gl X "set":=by rfl)
  (h1:starEach [e] X.env=(false,eval e X.env)::starEach [] X.env:=by rfl):JE X (.Call (.Name "len" p) [.Call (.Name "set" p2) [e] [] pos2] [] pos) (f1 iT f):=by
 refine PE.to (fJ lO g1 m1 cO (bI (jj (j8 hc) g2 m2 Ao (bI he cS h1) (he:=h1)) cS)) λσ H Q q=>?_;obtain⟨B,ρ,d',bb,sB,r,ee,q⟩:=q;obtain⟨x1,ex,ee⟩:=oX ee;refine⟨B,ρ,x1.1,x1.2,sB,r,ex,λv H1 N1 xt i1 fr=>?_⟩;obtain⟨xd,xb⟩:=x1;cases i1<;>try (simp[iT]at ee;done)
 rename_i l0 vs ds h hl;simp only[iT]at ee;obtain⟨ss,ez,ee⟩:=oX ee;split at ee
 ·rename_i AE;cases ee
  refine⟨_,_,ss,rfl,xt.nh.seq h,λits r'=>iM r' hl ez,AE,λS hS=>⟨S,_,rfl,aw,?_⟩⟩;have x2:=Ext.laid (o:=pk X S (dP ss)) xt.nh hS;exact(q.into (xt.trans x2)).one (xt.trans x2).nh (.int _)
 ·cases ee
end
section
variable {X:Cx}{a:Expr}{pos:Pos}{x:Str}{p:Pos}{d:Addr}{b8:List (Str×D)}
theorem tR (cd:iO X.K X.w.params d b8):cF X (compareOp .NotIn) (λx y H Q=>∃z,x=.str z/\y=.ref d/\Q (.bl (!(b8.lookup z).isSome)) H):=by
 rintro ac s σ H _ _ v u Q I rx ry ⟨z,rfl,rfl,q⟩;cases ry
 obtain⟨t,rfl⟩:=rx;obtain⟨f,hM,sm,hf⟩:=cd.map I;refine wpAny_notIn_of (strKind_is X.prog X.w z t) sm hM ⟨.bl (!(b8.lookup z).isSome),H,I.tok _,?_,q⟩;have:=hf z;cases el:b8.lookup z with
 |none=>rw[el]at this;dsimp only at this;rw[this];rfl
 |some dd=>rw[el]at this;obtain⟨_,_,e1,_⟩:=this;rw[e1];rfl
theorem tS (h:∃d,X.mg x=some (.ref d)/\iO X.K X.w.params d b8)(ha:JE X a f)(hg:Gl X x:=by rfl)(hd:(x == ("__debug__" : Str))=false:=by decide)(hm:behindInMarks .NotIn (.Name x p)=false:=by rfl):JT X (.Compare a [.NotIn] [.Name x p] pos) (bD (f1 (kC b8) f)):=by
 obtain⟨d,hmg,cd⟩:=h;refine PT.to (rA (tR cd) ha (dW (v:=.ref d) hg hmg rfl hd) hm) λσ H Q q=>?_;obtain⟨B,ρ,d',bb,sB,r,ee,q⟩:=nq q;obtain⟨x1,ex,ee⟩:=oX ee;refine⟨B,ρ,x1.1,x1.2,sB,r,ex,λv H1 N1 xt i1 fr=>?_⟩;obtain⟨xd,xb⟩:=x1;cases i1<;>try (simp[kC]at ee;done)
 rename_i z;simp only[kC]at ee;cases ee
 exact⟨z,rfl,rfl,(q.into xt).one xt.nh (.bl _)⟩
end
section
variable {prog:Program}{w:World}{A:Around}{E:Value->Shared->Prop}{s:Shared}
theorem qQ {a:Addr}{o:Obj}{its:Array Value}{n:Nat}{x:Value}{e:Value->Bool}{j:Nat}{P:PySem.Fin->Shared->Prop}(ho:s.heap.get? a=some o)(hd:o.data=.seq its n)
  (he:∀y∈its,MeetsSeq.EqGives y x (e y)) (hj:j<its.size) (Gf:e its[j]=true) (CM:∀m (hm:m<its.size),m<j->e its[m]=false)
  (h:P (.done (.ret (.int j s.toks))) { s with toks:=s.toks+1 }):wpAny (model prog w) A (Builtin.«tuple.index» ⟨[.ref a,x],[]⟩) P E s:=by
 show wpAny _ _ (Builtin.Tuple.tupleItemsOf (.ref a)>>=_) _ _ s;refine wX (wpAny_tupleItemsOf ho hd ?_);dsimp only;refine wX (wY (wX (wY (wX ?_))));rw[Std.Legacy.Range.forIn_eq_forIn_range'];refine wpAny_forIn_list _
  (λay r s'=>r.1=none/\s'=s/\∃i,i<=j/\ay=List.range' i (its.size - i))
  _ ?_ ?_ _ _ ⟨rfl,rfl,0,uN _,?_⟩
 ·rintro k ay r s' ⟨hr,rfl,i,hi,hz⟩;have fG:i<its.size:=by omega
  obtain⟨m,hm⟩:∃m,its.size - i=m+1:=⟨its.size - i - 1,by omega⟩;rw[hm,List.range'_succ]at hz;injection hz with z1 z2;have z1:=z1.symm;subst z1;subst z2;have hg:its[i]? = some its[i]:=by simp[fG]
  simp only[hg];refine wX (he _ (Array.getElem_mem fG) prog w _ _ _ _ ?_);by_cases hij:i=j
  ·subst hij;rw[Gf];simp only[if_true];refine wX ?_;show wpAny _ _ (mkInt (i:Int)>>=λv=>ret v) _ _ _;exact wX (wpAny_mkInt (wY (wY (wY h))))
  ·rw[CM i fG (by omega)];simp only[uV,if_false];exact wY ⟨rfl,rfl,i+1,by omega,by rw[show its.size - (i+1)=m by omega]⟩
 ·rintro⟨r1,r2⟩ s' ⟨hr,rfl,i,hi,hz⟩;exfalso;have:(List.range' i (its.size - i)).length=0:=by rw[←hz];rfl
  rw[List.length_range']at this;omega
 ·simp
end
theorem CRows.findT {K:Frag}{P:Params}(y:Str){ds:List D}:∀ {es:List DictEntry}{b8:List (Str×D)},CRows K P es b8->b8.lookup y=some (.tup ds) ->
  ∃e a its n jy,es.find? (λe=>Value.isStrOf y e.key)=some e/\e.val=.ref a/\K.lookup a=some ⟨.type "tuple",none,.seq its n,jy⟩/\gh its.toList ds=true
 |_,_,.nil,h=>by simp at h
 |_,_,.tup (x:=x) (t:=t) (a:=a) (ds:=z8) hh l f tl,h=>by
  by_cases e:y=x
  ·subst e;rw[List.lookup_cons_self]at h;cases h
   rw[vC]at f;exact⟨_,a,_,_,_,List.find?_cons_of_pos (by simp[Value.isStrOf]),rfl,l,f.2⟩
  ·rw[List.lookup_cons,beq_eq_false_iff_ne.mpr e]at h;have nf:Value.isStrOf y (Value.str x t)=false:=by
    rw[Bool.eq_false_iff];intro z;obtain⟨t',q⟩:=Value.isStrOf_shape z;injection q with q1;exact e q1.symm
   simp only[List.find?_cons,nf];exact tl.findT y h
 |_,_,.flat (x:=x) (t:=t) (u:=u) (d:=d) hh f tl,h=>by
  by_cases e:y=x
  ·subst e;rw[List.lookup_cons_self]at h;cases h
   cases u<;>simp[nF]at f
  ·rw[List.lookup_cons,beq_eq_false_iff_ne.mpr e]at h;have nf:Value.isStrOf y (Value.str x t)=false:=by
    rw[Bool.eq_false_iff];intro z;obtain⟨t',q⟩:=Value.isStrOf_shape z;injection q with q1;exact e q1.symm
   simp only[List.find?_cons,nf];exact tl.findT y h
section
variable {X:Cx}{b e:Expr}{pos:Pos}{x:Str}{p:Pos}
def GL (K:Frag):V->List V->Hp->VK->Prop:=λx xs H Q=>∃(a:Addr)(o:Obj)(its:Array Value)(n:Nat)(zs:List Str)(y:Str),x=.ref a/\xs=[.str y]/\K.lookup a=some o/\o.cls=.type "tuple"/\o.data=.seq its n/\StrsAre its.toList zs/\zs.findIdx (· == y)<zs.length/\Q (.int (zs.findIdx (· == y):Nat)) H
noncomputable def Aq (y:Str):Value->Bool
 |.str z _=>z == y
 |_=>false
theorem su:∀ {its:List Value}{zs:List Str},StrsAre its zs->∀(i:Nat)(hi:i<its.length),∃(h:i<zs.length)(t:Tok),its[i]=.str zs[i] t
 |_,_,.cons z t h,0,_=>⟨by simp,t,rfl⟩
 |_,_,.cons z t h,i+1,hi=>by
  obtain⟨h',t',e⟩:=su h i (by simpa using hi);exact⟨by simpa using h',t',by simpa using e⟩
 |_,_,.nil,i,hi=>by simp at hi
theorem pr:∀ {its:List Value}{zs:List Str},StrsAre its zs->its.length=zs.length
 |_,_,.nil=>rfl
 |_,_,.cons _ _ h=>by rw[vD,vD,pr h]
theorem wk:Bh X "tuple.index" (GL X.K):=by
 intro ac s σ H x xs v us Q I rx rv h;obtain⟨a,o,its,n,zs,y,rfl,rfl,lk,hc,hd,hz,hk,q⟩:=h;cases rx
 obtain⟨u,rfl,⟨t,rfl⟩⟩:=rv.one;have ho:=I.kIn a o lk;have hl:=pr hz;rw[vF]at hl;have at':∀(i:Nat)(hi:i<its.size),∃(h:i<zs.length)(t:Tok),its[i]=.str zs[i] t:=λi hi=>by
  obtain⟨h',t',e⟩:=su hz i (by simpa using hi);exact⟨h',t',by simpa using e⟩
 refine wpAny_call_entry PySem.F.slot_tuple_index ⟨o,ho,hc⟩ PySem.F.entry_tuple_index (qQ (e:=Aq y) (j:=zs.findIdx (· == y)) ho hd (λz hm=>?_) (by omega) ?_ (λm hm fG=>?_) ⟨_,rfl,.int (zs.findIdx (· == y):Nat),H,I.tok _,⟨_,rfl⟩,q⟩) (PySem.F.args_tuple_index_2 _ _)
 ·obtain⟨i,hi,rfl⟩:=Array.mem_iff_getElem.mp hm;obtain⟨_,t',e'⟩:=at' i hi;rw[e'];exact eqGives_str _ _ _ _
 ·obtain⟨_,t',e'⟩:=at' (zs.findIdx (· == y)) (by omega);rw[e'];exact List.findIdx_getElem (p:=(· == y)) (w:=hk)
 ·obtain⟨_,t',e'⟩:=at' m hm;rw[e'];have:=List.not_of_lt_findIdx (p:=(· == y)) (xs:=zs) fG;simpa [Aq]using this
@[simp] def pv (b8:List (Str×D)):D->D->OB
 |.str y,.str z=>match b8.lookup y with
  |some (.tup ds)=>(gH ds).bind λzs=>if zs.findIdx (· == z)<zs.length then some (.int (zs.findIdx (· == z):Nat),false)else none
  |_=>none
 |_,_=>none
theorem yO {b8:List (Str×D)}{f g:FE}{gW cW:Pos}(h:∃d,X.mg x=some (.ref d)/\iO X.K X.w.params d b8)(hb:JE X b f)(he:JE X e g)(hg:Gl X x:=by rfl)(lx:(x == ("__debug__" : Str))=false:=by decide)(hs:jW b:=by intro _ _;rfl)
  (ly:attributeBase (.Subscript (.Name x p) b pos) "index" X.env (eval (.Subscript (.Name x p) b pos) X.env)=eval (.Subscript (.Name x p) b pos) X.env:=by rfl)
  (rl:((backTo cW (starEach [e] X.env)).all (λx=>!x.1) && (backToKw cW (keywordEach [] X.env)).all (λx=>x.1.isSome)
   && decide ([e].length+([]:List Keyword).length+(if([]:List Keyword).isEmpty then 0 else 1)<30))=true:=by rfl)
  (l5:(gW.endLine == cW.line)=true:=by rfl) (jg:starEach [e] X.env=[(false,eval e X.env)]:=by rfl):
  JE X (.Call (.Attribute (.Subscript (.Name x p) b pos) "index" gW) [e] [] cW) (f2 (pv b8) f g):=by
 obtain⟨d,hm,cd⟩:=h;have ix:uK X (λx y H Q=>∃z ds,x=.ref d/\y=.str z/\b8.lookup z=some (.tup ds)/\∀a its n jy,X.K.lookup a=some ⟨.type "tuple",none,.seq its n,jy⟩->gh its.toList ds=true->Q (.ref a) H):=by
  intro value slice ac s σ H x y v u Q I rx ry q hs;obtain⟨z,ds,rfl,rfl,el,q⟩:=q;cases rx
  obtain⟨t,rfl⟩:=ry;obtain⟨es,n,l,r,sm⟩:=cd;have hM:=PySem.W.mapOf_K (prog:=X.prog) (w:=X.w) I.kIn l r.lit;obtain⟨en,a,its,n',jy,e1,e2,e3,e4⟩:=r.findT z el;have ff:findBy Value.isStrOf es z=some (.ref a):=by
   unfold findBy;obtain⟨es⟩:=es;rw[List.find?_toArray,e1,←e2];rfl
  exact tail_any hM.typeIs slot_dict_getitem.lookup (wpAny_getItem_of (strKind_is X.prog X.w z t) hM ff ⟨.ref a,H,I.tok _,rfl,q a _ _ _ e3 e4⟩) hs
 refine PE.to (uS (T:="tuple") PySem.F.plainAttrs_tuple PySem.F.slot_tuple_index PySem.F.type_tuple_index wk (uL ix (dW (v:=.ref d) hg hm rfl lx) hb hs) (bI he cS jg) ly rl l5 jg rfl) λσ H Q q=>?_;obtain⟨B,ρ,d',bb,sB,r,ee,q⟩:=q;obtain⟨x1,ex,ee⟩:=oX ee;obtain⟨y1,ey,ee⟩:=oX ee;obtain⟨xd,xb⟩:=x1;obtain⟨yd,yb⟩:=y1;cases xd with
 |str z=>
  cases yd with
  |str y=>
   refine⟨B,ρ,_,xb,sB,r,ex,λv H1 N1 xt i1 _=>?_⟩;cases i1
   simp only[pv]at ee;split at ee
   ·rename_i ds el;obtain⟨zs,ez,ee⟩:=oX ee;split at ee
    ·rename_i hk;cases ee
     refine⟨z,ds,rfl,rfl,el,λa its n jy l fl=>⟨.inr (.inl ⟨rfl,_,l,rfl,rfl⟩),N1,ρ,_,yb,xt.nh,r.mono xt.bn,ey,λv2 H2 N2 xF i2 _=>?_⟩⟩;cases i2
     obtain⟨vs,rv,iv⟩:=gi (K:=X.K) fl;exact⟨a,_,its,n,zs,y,rfl,rfl,l,rfl,rfl,iM rv (iv N2) ez,hk,(q.into (xt.trans xF)).one xF.nh (.int _)⟩
    ·cases ee
   ·cases ee
  |_=>simp[pv]at ee
 |_=>simp[pv]at ee
end
open PySem.W (tabIn tabObj CodeHd kla_fn kla_obj kla_eval kla_makeFunction kla_makeFunctionHit kla_callFunE kla_codeExpr envX)
section
variable {P:Program}{w:World}{K:Frag}{mg:Str->Option Value}{base:Heap}
theorem dS.fnL {x:Str}{st:Stmt}{N ps:List Str}{k:Nat}{g:FS}{h:Heap}(F:dS K x st)(X:K.In h)(G:h.Ns mainGlobals mg)(S:FnScope N ps (ar st))
  (ro:∀(kV doc pm:Value)(an:Option Addr)(bL ct:Value)(us:List Value),us.length=ps.length->bindArgs (fnOf x x (cz st) (ba st) (ar st) .none kV doc pm an bL ct) ⟨us,[]⟩=pure (ps.zip us))
  (hb:∀(f:Addr)(bL:Value)(A:Around)(outer:List PySem.Env)(s:Shared)(H:Hp)(E:XK),(∀c P,tabIn K x=some (c,P)->bL=.ref c)->cD k (A.deeper (envOfC x (ar st) s.heap.objs.size f bL))->nZ (eB ko P w K mg base N x (ar st) f bL A outer s H E).nox (ba st) g):
  Fn P w K mg base (k+1) x (aZ g ps.length (N.length - ps.length)):=by
 obtain⟨f,fd,F1,a⟩:=F;have F2:=F1;obtain⟨oc,od,kV,doc,pm,an,bL,ct,jy,rfl,lk,gq⟩:=F2.ex;have hc:∀c P,tabIn K x=some (c,P)->bL=.ref c:=λc P e=>by
  unfold tabIn at e;simp only[a,lk]at e;split at e
  ·rename_i c' _;split at e
   ·split at e
    ·cases e;rfl
    ·cases e
   ·cases e
  ·cases e
 have len:∀vs H Q E,xK K (aZ g ps.length (N.length - ps.length)) vs H Q E->vs.length=ps.length:=λvs H Q E h=>by
  obtain⟨B,ds,d,b,sB,i,e,q⟩:=h;unfold aZ at e;split at e
  ·rename_i hl;rw[i.length];exact hl
  ·cases e
 refine⟨f,_,ps,rE lk gq S len λA outer s H vs Q E hr h=>⟨_,kh.nox (hb f bL A outer s H E hc hr),?_⟩,mg_of X G a,F1.kp,F1.binds ro⟩;have bS:=len vs H Q E h;obtain⟨B,ds,d,b,sB,i,e,q⟩:=h;unfold aZ at e;rw[if_pos (by rw[←i.length];exact bS)]at e;have s0:=kz (N:=N) sB.1 sB.2 i;rw[bS]at s0;split at e
 ·rename_i d' b' eg;cases e
  exact⟨B,H,_,_,⟨B,s0⟩,eg,λv H' N' x' i' f'=>q v H' N' x' i' f'⟩
 ·rename_i ρ' eg;cases e
  exact⟨B,H,_,_,⟨B,s0⟩,eg,λσ' H' ⟨N',s'⟩=>q .non H' N' s'.ext .non (by simp)⟩
 ·cases e
end
inductive l8 (X:Cx)(N':List Str)(scope:Scope)(cl:List (Str×Addr)):Nat->List Nat->Prop where
 |nil {j:Nat}(h:N'.length=j):l8 X N' scope cl j []
 |cons {j i:Nat}{r:List Nat}{x:Str}(h1:N'[j]? = some x) (h2:X.N[i]? = some x) (h3:X.env.kindOf x=some .cell∨X.env.kindOf x=some .free)
   (h4:scope.names.lookup x=some .free) (h5:cl.lookup x=X.env.cells.lookup x) (t:l8 X N' scope cl (j+1) r):l8 X N' scope cl j (i::r)
theorem l8.len:∀ {j:Nat}{cap:List Nat},l8 X N' scope cl j cap->N'.length=j+cap.length
 |_,_,.nil h=>by rw[h];rfl
 |j,i::r,.cons _ _ _ _ _ t=>by rw[t.len,vD];omega
theorem l8.get:∀ {j:Nat}{cap:List Nat}{k i:Nat},l8 X N' scope cl j cap->cap[k]? = some i->∃x,N'[j+k]? = some x/\X.N[i]? = some x/\(X.env.kindOf x=some .cell∨X.env.kindOf x=some .free) /\
  scope.names.lookup x=some .free/\cl.lookup x=X.env.cells.lookup x
 |_,_,_,_,.nil _,e=>by simp at e
 |j,_,0,_,.cons h1 h2 h3 h4 h5 _,e=>by simp at e;subst e;exact⟨_,h1,h2,h3,h4,h5⟩
 |j,_,k+1,i,.cons _ _ _ _ _ t,e=>by
  obtain⟨x,q,r⟩:=t.get (k:=k) (i:=i) (by simpa using e);exact⟨x,by rw[show j+(k+1)=j+1+k by omega];exact q,r⟩
end DL
namespace DL
open PySem PySem.Spec PySem.W PyProof.Rows L2
noncomputable def DZ (f:D->Option D):List D->Option (List D)
 |[]=>some []
 |d::ds=>(f d).bind λx=>(DZ f ds).map (x :: ·)
def wl (ks:List (List At))(ds:List D):List D:=(DU (λp:List At×D=>DV p.1) (ks.zip ds)).map (·.2)
@[simp] def wm (kd:List D->Option (List (List At)))(ok:List (List At)->Bool)(f:FE)(kf:Env->D->Option D):FE:=λρ=>(f ρ).bind λx=>match x.1 with
 |.lst ds=>(DZ (kf ρ) ds).bind λLC=>(kd LC).bind λks=>if ks.length<64/\DW ks=true/\ok ks=true/\(ks.map DV).Nodup then some (.lst (wl ks ds),true)else none
 |_=>none
@[simp] abbrev GN:FE->(Env->D->Option D)->FE:=wm Ap wj
section
variable {prog:Program}{w:World}{A:Around}{E:Value->Shared->Prop}{s:Shared}{op:CmpOp}
theorem DX.type (h:DX s.heap xs v):s.TypeIs v "tuple":=by
 obtain⟨a,o,its,n,rfl,ho,hc,_⟩:=h;exact⟨o,ho,hc⟩
end
section
variable {X:Cx}{a b:Expr}{p pos:Pos}
@[simp] def jY (f g:FE):FA:=λρ=>(f ρ).bind λx=>(g ρ).bind λy=>match x.1,y.1 with
 |.int i,.int j=>if -1000<=i/\i<=1000/\-1000<=j/\j<=1000 then some (bA i (j - i).toNat)else none
 |_,_=>none
theorem tT (hm:X.mg "range" = none)(h:JE X a f)(h':JE X b g)(hg:Gl X "range":=by rfl)(hs:starEach [a,b] X.env=[(false,eval a X.env),(false,eval b X.env)]:=by rfl)(lE:starEach [b] X.env=[(false,eval b X.env)]:=by rfl):PI X tg (.Call (.Name "range" p) [a,b] [] pos) (C5 X.K (jY f g)):=by
 refine PI.to (sY hg hm (ag h (ag h' ae lE) (by rw[hs,lE])) hs lE) λσ H R q=>?_;obtain⟨B,ρ,ds,sB,r,e',q⟩:=q;obtain⟨⟨x,xb⟩,ex,e'⟩:=oX e';obtain⟨⟨y,yb⟩,ey,e'⟩:=oX e';match x,y,ex,ey,e' with
 |.int i,.int j,ex,ey,e'=>
  dsimp only at e';split at e'
  ·rename_i hj;cases e'
   refine⟨B,ρ,[.int i,.int j],sB,r,by simp[aa,af,ex,ey],λvs H1 N1 x1 i1=>?_⟩;cases i1 with
   |cons i1 i2=>
    cases i1
    cases i2 with
    |cons i2 i3=>
     cases i2;cases i3
     exact⟨i,j,rfl,by omega,q _ H1 N1 x1 λ_=>oN i (j - i).toNat⟩
  ·cases e'
end
end DL
namespace DL
open PySem PySem.Spec PyProof.Rows L2
section
variable {X:Cx}
@[simp] def dX:List D->OB
 |[d,.tup [.ty n,.ty m]]=>if yF d=true then none else if n = "list"/\m = "tuple" then some (.bl (eK d == "list" || eK d == "tuple"),false)else none
 |_=>none
theorem tU (K:Frag)(d:D)(hd:∀n,d≠.ty n):PySem.W.kitAny K (.type (eK d)) [.type "list",.type "tuple"]=some (eK d == "list" || eK d == "tuple"):=by
 obtain⟨_,_,_,k4,k5⟩:=nB K d hd;unfold PySem.W.kitAny;rw[k4];cases eK d == "list" with
 |true=>rfl
 |false=>
  unfold PySem.W.kitAny;rw[k5];cases eK d == "tuple" with
  |true=>rfl
  |false=>rfl
theorem wn (I:Inv X ac σ H s)(i:Is X.K H v d)(hd:∀n,d≠.ty n)(rx:aI v u)(ht:IsTup s.heap tp its.toArray)(e:PySem.W.kitAny X.K (.type (eK d)) its=some b)(h:∀tk,Q (.bool b) { s with toks:=tk }):
  wpAny (model X.prog X.w) A (call (.builtin "isinstance") [u,.ref tp]) Q E s:=by
 obtain⟨⟨cls,dd,data,sl⟩,ho,hc,n,JJ⟩:=id ht;dsimp only at hc JJ;subst hc;subst JJ;cases i with
 |non=>cases (show u=Value.none from rx);exact PySem.W.kia_tup PySem.W.kitx_none I.kIn True.intro ho e (λz=>nomatch z) h
 |bl y=>cases (show u=Value.bool y from rx);exact PySem.W.kia_tup PySem.W.kitx_bool I.kIn True.intro ho e (λz=>nomatch z) h
 |int i=>obtain⟨t,q⟩:=(show ∃t,u=Value.int i t from rx);cases q;exact PySem.W.kia_tup PySem.W.kitx_int I.kIn True.intro ho e (λz=>nomatch z) h
 |str y=>obtain⟨t,q⟩:=(show ∃t,u=Value.str y t from rx);cases q;exact PySem.W.kia_tup PySem.W.kitx_str I.kIn True.intro ho e (λz=>nomatch z) h
 |ty n=>exact absurd rfl (hd n)
 |dk h1 _ _=>
  cases rx
  obtain⟨_,_,_,vs,_,o,es,ep,e1,e2,_⟩:=(show bC X.prog X.w H s.heap _ (.dK _ _)from I.hok _ _ h1);exact PySem.W.kia_tup PySem.W.kitx_dict I.kIn ⟨o,e1,e2.1⟩ ho e (λz=>nomatch z) h
 |dt h1 _ _=>
  cases rx
  obtain⟨_,_,xs,_,o,es,ep,e1,e2,_⟩:=(show bC X.prog X.w H s.heap _ (.dT _)from I.hok _ _ h1);exact PySem.W.kia_tup PySem.W.kitx_dict I.kIn ⟨o,e1,e2.1⟩ ho e (λz=>nomatch z) h
 |tup ht _=>
  cases rx
  obtain⟨its,_,⟨o,h1,h2,_⟩,_⟩:=I.tuple ht;exact PySem.W.kia_tup PySem.W.kitx_tuple I.kIn ⟨o,h1,h2⟩ ho e (λz=>nomatch z) h
 |lst hl _=>
  cases rx
  obtain⟨its,_,⟨o,n,h1,h2,_⟩,_⟩:=I.list hl;exact PySem.W.kia_tup PySem.W.kitx_list I.kIn ⟨o,h1,h2⟩ ho e (λz=>nomatch z) h
theorem m5:bM X (.builtin "isinstance") (yt X.K dX):=by
 intro ac s σ H xs us Q I rs q;obtain⟨B,ds,d,b,sB,i,e,q⟩:=q;cases i with
 |nil=>cases e
 |@cons _ dx _ _ i1 i=>
  cases i with
  |nil=>cases e
  |cons i2 i=>
   cases i with
   |cons _ _=>simp[dX]at e
   |nil=>
    cases i2<;>try (cases e;done)
    rename_i hs hl;cases hl with
    |nil=>cases e
    |cons j1 hl=>
     cases j1<;>try (cases e;done)
     cases hl with
     |nil=>cases e
     |cons j2 hl=>
      cases j2<;>try (cases e;done)
      cases hl with
      |cons _ _=>simp[dX]at e
      |nil=>
       obtain⟨u1,u2,rfl,r1,r2⟩:=uG rs;simp only[dX]at e;split at e
       ·cases e
       ·rename_i ht;have hd:∀n,dx≠.ty n:=λn z=>by subst z;exact ht rfl
        split at e
        ·rename_i hh;obtain⟨rfl,rfl⟩:=hh;cases e
         cases r2
         obtain⟨its,rv,p,_⟩:=I.tuple (bg sB hs);obtain⟨w1,w2,rfl,LD,LF⟩:=rv.two;cases LD
         cases LF
         exact wn I (i1.mono sB) hd r1 p (tU X.K dx hd) λtk=>⟨.bl _,H,I.tok tk,rfl,q.one sB (.bl _)⟩
        ·cases e
end
@[simp] noncomputable def Ar:D->Option iA
 |.int i=>some (.inl i)
 |.str x=>some (.inr x)
 |_=>none
noncomputable def wo {κ:Type}[DecidableEq κ]:List κ->List D->κ->Option D
 |k'::ks,d::ds,k=>if k'=k then some d else wo ks ds k
 |_,_,_=>none
section
variable {X:Cx}{o e i:Expr}{pos:Pos}
@[simp] def Mr:D->D->OB
 |.dk ks vs,y=>(Ar y).bind λk=>(wo ks vs k).map λd=>(d,false)
 |_,_=>none
@[simp] def Ms:D->D->OB
 |y,.dk ks vs=>(Ar y).map λk=>(.bl (wo ks vs k).isSome,false)
 |_,_=>none
end
section
variable {prog:Program}{w:World}{A:Around}{E:Value->Shared->Prop}{s:Shared}
abbrev jr (h:Heap)(z TI TO T0:Addr)(f:Bool):Prop:=h.get? z=some { cls:=.type "zip",dict:=none,data:=.fields #[rawInt T0,.bool f,.bool false,.ref TI,.ref TO],slots:=#[] }
theorem wt (e:s.heap.get? a=some o)(h:Q (some o) s):wpAny (model prog w) A (loadIfAlive a) Q E s:=by
 intro Γ p hΓ;unfold loadIfAlive;simp only[Sem.wp];rw[e];exact h
theorem m6 {z TI TO T0:Addr}{f:Bool}{oT:Obj}{Q:Bool->Shared->Prop}(hz:jr s.heap z TI TO T0 f)(hT:s.heap.get? T0=some oT)
  (q:∀h',jr h' z TI TO T0 true->Heap.SameBut z s.heap h'->Q false { s with heap:=h' }):wpAny (model prog w) A (Builtin.SmallTypes.ownedTupleIsFree (.ref z)) Q E s:=by
 unfold Builtin.SmallTypes.ownedTupleIsFree;refine wX (wpAny_field hz rfl (x:=rawInt T0) rfl ?_);show wpAny _ _ (loadIfAlive ((T0:Int).toNat)>>=_) _ _ _;rw[Int.toNat_natCast];refine wX (wt hT ?_);simp only[Option.isNone_some,uV,if_false];refine wX (wpAny_field hz rfl (x:=.bool f) rfl ?_);cases f with
 |true=>
  rw[if_neg (show ¬((Value.bool true != Value.bool true)=true)from uX)];exact wY (q s.heap hz (.refl _ _))
 |false=>
  rw[if_pos (show((Value.bool false != Value.bool true)=true)from rfl)];refine wX (wpAny_setField_rec hz (by simp) λh' hz' s'=>wY (q h' hz' s'))
end
section
variable {prog:Program}{w:World}{A:Around}{E:Value->Shared->Prop}{s:Shared}
theorem tV {k1 k2:Bool}{z TI TO T0 i1 i2 l1 l2:Addr}{f:Bool}{oT:Obj}{j:Nat}{xs ys:Array Value}{x y:Value}{Q:Value->Shared->Prop}(D:ZApart z TI TO i1 i2)(m1:l1≠z/\l1≠TO/\l1≠i1)(m2:l2≠z/\l2≠TO/\l2≠i1/\l2≠i2)
  (hz:jr s.heap z TI TO T0 f) (hT:s.heap.get? T0=some oT) (hI:IsPair s.heap TI (.ref i1) (.ref i2)) (t1:iC k1 s.heap i1 l1 j) (t2:iC k2 s.heap i2 l2 j) (q1:iq k1 s.heap l1 xs) (q2:iq k2 s.heap l2 ys) (hx:xs[j]? = some x) (hy:ys[j]? = some y)
  (q:∀h',jr h' z TI TO T0 true->iC k1 h' i1 l1 (j+1)->iC k2 h' i2 l2 (j+1)->IsPair h' s.heap.objs.size x y ->
   (∀c o,c≠z->c≠i1->c≠i2->s.heap.get? c=some o->h'.get? c=some o)->Q (.ref s.heap.objs.size) { s with heap:=h' }):
  wpAny (model prog w) A (Builtin.«zip.__next__» ⟨[.ref z],[]⟩) (λg0 s'=>∃v,g0=.done (.ret v)/\Q v s') E s:=by
 show wpAny _ _ (field (.ref z) 2>>=_) _ _ s;refine wX (wpAny_field hz rfl (x:=.bool false) rfl ?_);show wpAny _ _ (field (.ref z) 3>>=_) _ _ s;refine wX (wpAny_field hz rfl (x:=.ref TI) rfl (wX (wpAny_seqItems hI rfl ?_)));show wpAny _ _ (Builtin.SmallTypes.ownedTupleIsFree (.ref z)>>=_) _ _ s;refine wX (m6 hz hT λg1 hz1 s1=>?_);simp only[uV,if_false];refine wX ?_;simp only[←Array.forIn_toList,List.forIn_cons,List.forIn_nil];refine wX (wX (wpAny_holding ?_));show wpAny _ _ (Builtin.SmallTypes.nextOf (.ref i1)>>=_) _ _ { s with heap:=g1 };refine wX (em (s:={ s with heap:=g1 }) (t1.upon λo e=>s1.extBut _ _ D.az e) (q1.upon λo e=>s1.extBut _ _ m1.1 e) hx λg2 t12 s2=>wY ?_);refine wY (wX (wX (wpAny_holding ?_)));show wpAny _ _ (Builtin.SmallTypes.nextOf (.ref i2)>>=_) _ _ { s with heap:=g2 };have Ct:∀ {c o},c≠z->c≠i1->s.heap.get? c=some o->g2.get? c=some o:=λc1 c3 e=>s2.extBut _ _ c3 (s1.extBut _ _ c1 e);refine wX (em (s:={ s with heap:=g2 }) (t2.upon λo e=>Ct D.bz D.ab.symm e) (q2.upon λo e=>Ct m2.1 m2.2.2.1 e) hy λg4 t24 s4=>wY ?_);refine wY (wY ?_);refine wX (wpAny_newTuple (hsz:=(by decide:2<=sizeLine)) ?_);have sz:g4.objs.size=s.heap.objs.size:=by rw[s4.1,s2.1,s1.1]
 have LG:∀c o,c≠z->c≠i1->c≠i2->s.heap.get? c=some o->g4.get? c=some o:=λc o c1 c3 c4 e=>s4.extBut _ _ c4 (Ct c1 c3 e);refine wY ⟨_,rfl,?_⟩;show Q (.ref g4.objs.size) { s with heap:=g4.push { cls:=.type "tuple",data:=.seq #[x,y] } };have hp:IsPair (g4.push { cls:=.type "tuple",data:=.seq #[x,y] }) g4.objs.size x y:=vY _ rfl;rw[sz]at hp ⊢;exact q _ (vZ _ (s4.extBut _ _ D.bz.symm (s2.extBut _ _ D.az.symm hz1))) (t12.upon λo e=>vZ _ (s4.extBut _ _ D.ab e)) (t24.upon λo e=>vZ _ e) hp λc o c1 c3 c4 e=>vZ _ (LG c o c1 c3 c4 e)
theorem wu {k1 k2:Bool}{z TI TO T0 i1 i2 l1 l2:Addr}{f:Bool}{oT:Obj}{j:Nat}{xs ys:Array Value}{Q:PySem.Fin->Shared->Prop}(hA:A.handled=none)(D:ZApart z TI TO i1 i2)(m1:l1≠z/\l1≠TO/\l1≠i1)(m2:l2≠z/\l2≠TO/\l2≠i1/\l2≠i2)
  (hz:jr s.heap z TI TO T0 f) (hT:s.heap.get? T0=some oT) (hI:IsPair s.heap TI (.ref i1) (.ref i2)) (t1:iC k1 s.heap i1 l1 j) (t2:iC k2 s.heap i2 l2 j) (q1:iq k1 s.heap l1 xs) (q2:iq k2 s.heap l2 ys) (he:xs[j]? = none∨ys[j]? = none)
  (q:∀h' x,(∀c o,c≠z->c≠i1->c≠i2->s.heap.get? c=some o->h'.get? c=some o)->(∃o,h'.get? x=some o/\o.cls=.type "StopIteration")->E (.ref x) { s with heap:=h' }):
  wpAny (model prog w) A (Builtin.«zip.__next__» ⟨[.ref z],[]⟩) Q E s:=by
 show wpAny _ _ (field (.ref z) 2>>=_) _ _ s;refine wX (wpAny_field hz rfl (x:=.bool false) rfl ?_);show wpAny _ _ (field (.ref z) 3>>=_) _ _ s;refine wX (wpAny_field hz rfl (x:=.ref TI) rfl (wX (wpAny_seqItems hI rfl ?_)));show wpAny _ _ (Builtin.SmallTypes.ownedTupleIsFree (.ref z)>>=_) _ _ s;refine wX (m6 hz hT λg1 hz1 s1=>?_);simp only[uV,if_false];refine wX ?_;simp only[←Array.forIn_toList,List.forIn_cons,List.forIn_nil];refine wX (wX (wpAny_holding ?_));show wpAny _ _ (Builtin.SmallTypes.nextOf (.ref i1)>>=_) _ _ { s with heap:=g1 };cases hx:xs[j]? with
 |none=>
  exact wX (iN (s:={ s with heap:=g1 }) hA (t1.upon λo e=>s1.extBut _ _ D.az e) (q1.upon λo e=>s1.extBut _ _ m1.1 e) hx λg2 x s2 hX=>q g2 x (λc o c1 c3 _ e=>s2 _ _ c3 (s1.extBut _ _ c1 e)) hX)
 |some v=>
  have hy:ys[j]? = none:=by
   rcases he with h|h
   ·rw[hx]at h;cases h
   ·exact h
  refine wX (em (s:={ s with heap:=g1 }) (t1.upon λo e=>s1.extBut _ _ D.az e) (q1.upon λo e=>s1.extBut _ _ m1.1 e) hx λg2 t12 s2=>wY ?_);refine wY (wX (wX (wpAny_holding ?_)));show wpAny _ _ (Builtin.SmallTypes.nextOf (.ref i2)>>=_) _ _ { s with heap:=g2 };have Ct:∀ {c o},c≠z->c≠i1->s.heap.get? c=some o->g2.get? c=some o:=λc1 c3 e=>s2.extBut _ _ c3 (s1.extBut _ _ c1 e);exact wX (iN (s:={ s with heap:=g2 }) hA (t2.upon λo e=>Ct D.bz D.ab.symm e) (q2.upon λo e=>Ct m2.1 m2.2.2.1 e) hy λg4 x s4 hX=>q g4 x (λc o c1 c3 c4 e=>s4 _ _ c4 (Ct c1 c3 e)) hX)
end
structure ZA (k1 k2:Bool)(z TI TO i1 i2 l1 l2:Addr):Prop where
 D:ZApart z TI TO i1 i2
 m1:l1≠z/\l1≠TO/\l1≠i1
 m2:l2≠z/\l2≠TO/\l2≠i1/\l2≠i2
def wv (k1 k2:Bool)(z TI TO i1 i2 l1 l2 S:Addr)(i:Nat)(h:Heap):Prop :=
 IsPair h TI (.ref i1) (.ref i2)/\iC k1 h i1 l1 i/\iC k2 h i2 l2 i/\((IsZip h z TI TO .none/\∃a b,IsPair h TO a b)∨∃T0 f oT oO,jr h z TI TO T0 f/\h.get? T0=some oT/\T0∉[z,TI,TO,i1,i2]/\T0≠S/\h.get? TO=some oO)
theorem wv.keep {k1 k2:Bool}{z TI TO i1 i2 l1 l2 S:Addr}{i:Nat}{h h':Heap}(st:wv k1 k2 z TI TO i1 i2 l1 l2 S i h)(hS:S∉[z,TI,TO,i1,i2])(k:∀b o,b≠S->h.get? b=some o->h'.get? b=some o):wv k1 k2 z TI TO i1 i2 l1 l2 S i h':=by
 obtain⟨a1,a2,a3,a4⟩:=st;have n:∀ {b},b∈[z,TI,TO,i1,i2]->b≠S:=λhb e=>hS (e ▸ hb);refine⟨k _ _ (n (by simp)) a1,a2.upon λo e=>k _ o (n (by simp)) e,a3.upon λo e=>k _ o (n (by simp)) e,?_⟩;rcases a4 with⟨b1,a,b,b2⟩|⟨T0,f,oT,oO,b1,b2,b3,b4,b5⟩
 ·exact .inl ⟨k _ _ (n (by simp)) b1,a,b,k _ _ (n (by simp)) b2⟩
 ·exact .inr ⟨T0,f,oT,oO,k _ _ (n (by simp)) b1,k _ _ b4 b2,b3,b4,k _ _ (n (by simp)) b5⟩
section
variable {prog:Program}{w:World}{A:Around}{E:Value->Shared->Prop}{s:Shared}{k1 k2:Bool}{z TI TO i1 i2 l1 l2 S:Addr}{j:Nat}{xs ys:Array Value}
theorem wv.ty (st:wv k1 k2 z TI TO i1 i2 l1 l2 S j h):∃o,h.get? z=some o/\o.cls=.type "zip":=by
 obtain⟨_,_,_,a4⟩:=st;rcases a4 with⟨b1,_⟩|⟨T0,f,oT,oO,b1,_⟩
 ·exact⟨_,b1,rfl⟩
 ·exact⟨_,b1,rfl⟩
theorem ww (Z:ZA k1 k2 z TI TO i1 i2 l1 l2)(hS:S<s.heap.objs.size)(st:wv k1 k2 z TI TO i1 i2 l1 l2 S j s.heap)(q1:iq k1 s.heap l1 xs)(q2:iq k2 s.heap l2 ys)(hx:xs[j]? = some x)(hy:ys[j]? = some y)
  (q:∀h',wv k1 k2 z TI TO i1 i2 l1 l2 S (j+1) h'->IsPair h' s.heap.objs.size x y->(∀c o,c∉[z,TI,TO,i1,i2]->s.heap.get? c=some o->h'.get? c=some o)->Q (some (.ref s.heap.objs.size)) { s with heap:=h' }):
  wpAny (model prog w) A (pyNext (.ref z)) Q E s:=by
 have hT:s.TypeIs (.ref z) "zip":=st.ty;obtain⟨hI,t1,t2,a4⟩:=st;have lt:∀ {c o},s.heap.get? c=some o->s.heap.objs.size≠c:=λe=>Nat.ne_of_gt (vX e);obtain⟨o1,e1,_⟩:=t1.ob;obtain⟨o2,e2,_⟩:=t2.ob;unfold pyNext;rcases a4 with⟨hz,a,b,hO⟩|⟨T0,f,oT,oO,hz,h0,n0,nS,hO⟩
 ·refine wX (wpAny_attempt (wpAny_callSpecial?_slot (name:=Str.ofString "__next__") hT PySem.F.slot_zip_next (wpAny_call_entry PySem.F.slot_zip_next hT PySem.F.entry_zip_next (oV Z.D Z.m1 Z.m2 hz hI hO t1 t2 q1 q2 hx hy λh' b1 b2 b3 b4 b5 b6 bk=>wY ?_) (PySem.F.args_zip_next_1 _))));refine q h' ⟨bk _ _ Z.D.tz Z.D.to Z.D.ta Z.D.tb hI,b3,b4,.inr ⟨_,false,_,_,b1,b5,?_,Nat.ne_of_gt hS,b2⟩⟩ b5 λc o hc e=>bk c o (λz=>hc (by simp[z])) (λz=>hc (by simp[z])) (λz=>hc (by simp[z])) (λz=>hc (by simp[z])) e;simp only[List.mem_cons,List.not_mem_nil,or_false,not_or];exact⟨lt hz,lt hI,lt hO,lt e1,lt e2⟩
 ·refine wX (wpAny_attempt (wpAny_callSpecial?_slot (name:=Str.ofString "__next__") hT PySem.F.slot_zip_next (wpAny_call_entry PySem.F.slot_zip_next hT PySem.F.entry_zip_next (tV Z.D Z.m1 Z.m2 hz h0 hI t1 t2 q1 q2 hx hy λh' b1 b3 b4 b5 bk=>wY ?_) (PySem.F.args_zip_next_1 _))));exact q h' ⟨bk _ _ Z.D.tz Z.D.ta Z.D.tb hI,b3,b4,.inr ⟨T0,true,oT,oO,b1,bk _ _ (λz=>n0 (by simp[z])) (λz=>n0 (by simp[z])) (λz=>n0 (by simp[z])) h0,n0,nS,bk _ _ Z.D.oz Z.D.oa Z.D.ob hO⟩⟩ b5 λc o hc e=>bk c o (λz=>hc (by simp[z])) (λz=>hc (by simp[z])) (λz=>hc (by simp[z])) e
theorem wx (hA:A.handled=none)(Z:ZA k1 k2 z TI TO i1 i2 l1 l2)(st:wv k1 k2 z TI TO i1 i2 l1 l2 S j s.heap)(q1:iq k1 s.heap l1 xs)(q2:iq k2 s.heap l2 ys)(he:xs[j]? = none∨ys[j]? = none)
  (q:∀h',(∀c o,c∉[z,TI,TO,i1,i2]->s.heap.get? c=some o->h'.get? c=some o)->Q none { s with heap:=h' }):wpAny (model prog w) A (pyNext (.ref z)) Q E s:=by
 have hT:s.TypeIs (.ref z) "zip":=st.ty;obtain⟨hI,t1,t2,a4⟩:=st;unfold pyNext;rcases a4 with⟨hz,a,b,hO⟩|⟨T0,f,oT,oO,hz,h0,n0,nS,hO⟩
 ·refine wX (wpAny_attempt (wpAny_callSpecial?_slot (name:=Str.ofString "__next__") hT PySem.F.slot_zip_next (wpAny_call_entry PySem.F.slot_zip_next hT PySem.F.entry_zip_next (sj hA Z.D Z.m1 Z.m2 hz hI hO t1 t2 q1 q2 he λh' x hk hX=>?_) (PySem.F.args_zip_next_1 _))));obtain⟨o,eo,co⟩:=hX;exact wX (wpAny_isInstance (T:="StopIteration") (b:=true) ⟨o,eo,co⟩ isSubtype_stop (wY (q h' λc o hc e=>hk c o (λz=>hc (by simp[z])) (λz=>hc (by simp[z])) (λz=>hc (by simp[z])) (λz=>hc (by simp[z])) e)))
 ·refine wX (wpAny_attempt (wpAny_callSpecial?_slot (name:=Str.ofString "__next__") hT PySem.F.slot_zip_next (wpAny_call_entry PySem.F.slot_zip_next hT PySem.F.entry_zip_next (wu hA Z.D Z.m1 Z.m2 hz h0 hI t1 t2 q1 q2 he λh' x hk hX=>?_) (PySem.F.args_zip_next_1 _))));obtain⟨o,eo,co⟩:=hX;exact wX (wpAny_isInstance (T:="StopIteration") (b:=true) ⟨o,eo,co⟩ isSubtype_stop (wY (q h' λc o hc e=>hk c o (λz=>hc (by simp[z])) (λz=>hc (by simp[z])) (λz=>hc (by simp[z])) e)))
end
theorem wy (h:a≠b):upd (upd H a o) b u=upd (upd H b u) a o:=by
 funext c;unfold upd;by_cases h1:c=b
 ·by_cases h2:c=a
  ·exact absurd (h2.symm.trans h1) h
  ·rw[if_pos h1,if_neg h2,if_pos h1]
 ·rw[if_neg h1];by_cases h2:c=a
  ·rw[if_pos h2,if_pos h2]
  ·rw[if_neg h2,if_neg h2,if_neg h1]
theorem pw (h:H a=none):aO H (upd H a o):=λb u e=>by rw[au (aP e h)];exact e
theorem tW (h:(fz ds es)[i]? = some d):(fz ds es).take (i+1)=(fz ds es).take i++[d]:=by
 rw[List.take_add_one,h];rfl
theorem qR:typeLookup (.type "zip") "__len__" = pure none:=by rw[typeLookup_type,builtinLookup_eq_fast];kernel_rfl
theorem px:typeLookup (.type "zip") "__length_hint__" = pure none:=by rw[typeLookup_type,builtinLookup_eq_fast];kernel_rfl
section
variable {X:Cx}{ac:List (Addr×Obj)}{σ:St}{B H0:Hp}{A:Around}{R:Result->Shared->Prop}{k1 k2:Bool}{z TI TO i1 i2 l1 l2 S:Addr}{us ws:List V}{ds es:List D}
theorem tX (hA:A.handled=none)(Z:ZA k1 k2 z TI TO i1 i2 l1 l2)(hS:S∉[z,TI,TO,i1,i2])(h1:j6 k1 X.K B l1 us)(j1:IsL X.K B us ds)(h2:j6 k2 X.K B l2 ws)(j2:IsL X.K B ws es)
  (hR:∀Hc N vs s',Inv X ac σ (upd Hc S (.lst vs)) s'->Hc S=none->Ext B N H0 Hc->IsL X.K N vs (fz ds es)->R (.ok (.ret .none)) s'):
  ∀(k i:Nat)(s:Shared)(Hc N:Hp)(vs:List V),(fz ds es).length - i=k->i<=(fz ds es).length->Inv X ac σ (upd Hc S (.lst vs)) s->Hc S=none->Ext B N H0 Hc->(∀b∈[z,TI,TO,i1,i2],iI X ac (upd Hc S (.lst vs)) b) ->
   wv k1 k2 z TI TO i1 i2 l1 l2 S i s.heap->IsL X.K N vs ((fz ds es).take i) ->
   codeAny (model X.prog X.w) A (.builtin "list.extend.loop" ⟨[.ref S,.ref z,.none],[]⟩) R s:=by
 have n1:=j1.length;have n2:=j2.length;have nz:(fz ds es).length=min ds.length es.length:=by unfold fz;rw[List.length_zipWith]
 intro k;induction k with
 |zero=>
  intro i s Hc N vs hk hi I hc xt fp st il;have zK:i=(fz ds es).length:=by omega
  have sm:aO B (upd Hc S (.lst vs)):=(xt.bn.trans xt.nh).trans (pw hc);obtain⟨its,r1,p1,z1⟩:=(h1.same sm).vals I;obtain⟨lT,r2,p2,z2⟩:=(h2.same sm).vals I;have e1:=r1.length;have e2:=r2.length;refine codeAny_builtin PySem.F.entry_extend_loop ?_;rw[Around.under_plainId PySem.F.plain_extend_loop _];show wpAny _ A.in1 (pyNext (.ref z)>>=_) _ _ s;refine wX (wx (A:=A.in1) hA Z st p1 p2 ?_ λh' xB=>?_)
  ·by_cases q:ds.length<=es.length
   ·left;simp;omega
   ·right;simp;omega
  ·refine wY (hR Hc N vs _ (nG (t':=s.toks) I fp xB) hc xt ?_);rw[zK,List.take_length]at il;exact il
 |succ k ih=>
  intro i s Hc N vs hk hi I hc xt fp st il;have fG:i<(fz ds es).length:=by omega
  have sm:aO B (upd Hc S (.lst vs)):=(xt.bn.trans xt.nh).trans (pw hc);obtain⟨its,r1,p1,z1⟩:=(h1.same sm).vals I;obtain⟨lT,r2,p2,z2⟩:=(h2.same sm).vals I;have d1:i<ds.length:=by omega
  have d2:i<es.length:=by omega
  obtain⟨x,hx,ix⟩:=j1.get (vU d1);obtain⟨y,hy,iy⟩:=j2.get (vU d2);obtain⟨u,hu,ru⟩:=r1.get hx;obtain⟨v,hv,rv⟩:=r2.get hy;have el:(fz ds es)[i]? = some (.tup [ds[i],es[i]]):=by
   unfold fz;rw[List.getElem?_zipWith,vU d1,vU d2]
  obtain⟨zl,je,c,LH,M1,eS⟩:=I.lstM aw;have JK:S<s.heap.objs.size:=vX eS;refine codeAny_builtin PySem.F.entry_extend_loop ?_;rw[Around.under_plainId PySem.F.plain_extend_loop _];show wpAny _ A.in1 (pyNext (.ref z)>>=_) _ _ s;refine wX (ww (A:=A.in1) Z JK st p1 p2 (by simpa using hu) (by simpa using hv) λh' oi hp xB=>?_);have fr:upd Hc S (.lst vs) s.heap.objs.size=none:=I.hok.fresh (vT _);have nS:s.heap.objs.size≠S:=Nat.ne_of_gt JK;have JL:Hc s.heap.objs.size=none:=by rw[au nS]at fr;exact fr
  have new:bC X.prog X.w (upd (upd Hc S (.lst vs)) s.heap.objs.size (.tup [x,y])) h' s.heap.objs.size (.tup [x,y]):=⟨by show 2<=sizeLine;decide,[u,v],.cons ru (.cons rv .nil),⟨_,hp,rfl,_,rfl⟩⟩;have I1:Inv X ac σ (upd (upd Hc S (.lst vs)) s.heap.objs.size (.tup [x,y])) { s with heap:=h' }:=Am (s:=s) (t':=s.toks) I fp xB (vT _) new;rw[wy nS.symm]at I1;have JM:h'.get? S=some { cls:=.type "list",data:=.seq je.toArray c }:=xB S _ hS eS;have xF:Ext B (upd N s.heap.objs.size (.tup [x,y])) H0 (upd Hc s.heap.objs.size (.tup [x,y])):=xt.trans (Ext.laid xt.nh JL);have vl:vs.length=i:=by rw[il.length,List.length_take];omega
  have zs:=zl;show wpAny _ A.in1 (updateSeq S (·.push (Value.ref s.heap.objs.size))>>=_) _ _ _;refine wX ?_;have lz:(vs++[V.ref s.heap.objs.size]).length<=sizeLine:=by
   rw[uZ,vl];have a1:=z1;show i+1<=sizeLine;omega
  have I2:=I1.lset (t':=s.toks) (ys:=vs++[.ref s.heap.objs.size]) (its':=je++[.ref s.heap.objs.size]) (f:=(·.push (Value.ref s.heap.objs.size))) aw JM (by simp) (LH.append (.cons (show aI (.ref _) (.ref _)from rfl) .nil)) lz;rw[jU]at I2;refine wpAny_updateSeq JM rfl (wY ⟨plainId_quiet PySem.F.plain_extend_loop _,ih (i+1) _ _ _ (vs++[.ref s.heap.objs.size]) (by omega) fG I2 (by rw[au nS.symm];exact hc) xF (λb hb=>?_) (oi.keep hS λb o hb e=>(Heap.get?_update_other _ _ (Ne.symm hb)).trans e) ?_⟩) (by simp;omega) (by simp;omega)
  ·obtain⟨f0,f1,f2,f3,f4,f5⟩:=fp b hb;refine⟨?_,f1,f2,f3,f4,f5⟩;have nb:b≠S:=λe=>hS (e ▸ hb);rw[au nb]at f0 ⊢;have nT:b≠s.heap.objs.size:=by
    obtain⟨hI,t1,t2,a4⟩:=st;obtain⟨o1,e1,_⟩:=t1.ob;obtain⟨o2,e2,_⟩:=t2.ob;simp only[List.mem_cons,List.not_mem_nil,or_false]at hb;have lt:∀ {c o},s.heap.get? c=some o->c≠s.heap.objs.size:=λe=>vS (vX e);have hO:∃o,s.heap.get? TO=some o/\∃o,s.heap.get? z=some o:=by
     rcases a4 with⟨hz,a,b,hO⟩|⟨T0,f,oT,oO,hz,h0,n0,nS,hO⟩
     ·exact⟨_,hO,_,hz⟩
     ·exact⟨_,hO,_,hz⟩
    obtain⟨o3,e3,o4,e4⟩:=hO;rcases hb with rfl|rfl|rfl|rfl|rfl
    ·exact lt e4
    ·exact lt hI
    ·exact lt e3
    ·exact lt e1
    ·exact lt e2
   rw[au nT];exact f0
  ·rw[tW el];exact(il.mono (Ext.laid xt.nh JL).bn).append (.cons (.tup (gb.of aw) (.cons (ix.mono xF.bn) (.cons (iy.mono xF.bn) .nil))) .nil)
end
section
variable {X:Cx}{ac:List (Addr×Obj)}{σ:St}{B H:Hp}{s:Shared}{k1 k2:Bool}{z TI TO i1 i2 l1 l2:Addr}{us ws:List V}{ds es:List D}
theorem lP (hA:X.A.handled=none)(I:Inv X ac σ H s)(Z:ZA k1 k2 z TI TO i1 i2 l1 l2)(fp:∀b∈[z,TI,TO,i1,i2],iI X ac H b)
  (hI:IsPair s.heap TI (.ref i1) (.ref i2)) (t1:iC k1 s.heap i1 l1 0) (t2:iC k2 s.heap i2 l2 0) (hz:IsZip s.heap z TI TO .none) (hO:IsPair s.heap TO a b)
  (sB:aO B H) (h1:j6 k1 X.K B l1 us) (j1:IsL X.K B us ds) (h2:j6 k2 X.K B l2 ws) (j2:IsL X.K B ws es)
  (q:∀(S:Addr)(Hc N:Hp)(vs:List V),Hc S=none->Ext B N H Hc->IsL X.K N vs (fz ds es)->Q (.ref S) (upd Hc S (.lst vs))):
  wq X (call (.type "list") [.ref z]) (EP X ac σ Q) X.xe s:=by
 have lt:∀ {c o},s.heap.get? c=some o->s.heap.objs.size≠c:=λe=>Nat.ne_of_gt (vX e);have sU:s.heap.objs.size∉[z,TI,TO,i1,i2]:=by
  obtain⟨o1,e1,_⟩:=t1.ob;obtain⟨o2,e2,_⟩:=t2.ob;simp only[List.mem_cons,List.not_mem_nil,or_false,not_or];exact⟨lt hz,lt hI,lt hO,lt e1,lt e2⟩
 have nz:s.heap.objs.size≠z:=lt hz;have LI:wv k1 k2 z TI TO i1 i2 l1 l2 s.heap.objs.size 0 s.heap:=⟨hI,t1,t2,.inl ⟨hz,a,b,hO⟩⟩;have hc:H s.heap.objs.size=none:=I.fresh;refine callType_codes (Q₁:=λobj s₁=>obj=.ref s.heap.objs.size/\s₁={ s with heap:=s.heap.push { cls:=.type "list",data:=.seq #[] } }) PySem.F.called_list (PySem.F.typeCall_list_1 _) PySem.F.entry_list_init
  (code_list_new _ ⟨rfl,rfl⟩) λobj s₁ h₁=>?_
 obtain⟨rfl,rfl⟩:=h₁;have hS:(s.heap.push { cls:=.type "list",data:=.seq #[] }).get? s.heap.objs.size=some { cls:=.type "list",data:=.seq ([]:List Value).toArray }:=vY _ rfl;have I1:Inv X ac σ (upd H s.heap.objs.size (.lst [])) { s with heap:=s.heap.push { cls:=.type "list",data:=.seq #[] } }:=I.lnew (t':=s.toks) (its:=[]) .nil (uN _);have LJ:wv k1 k2 z TI TO i1 i2 l1 l2 s.heap.objs.size 0 (s.heap.push { cls:=.type "list",data:=.seq #[] }):=LI.keep sU λb o _ e=>vZ _ e;refine⟨⟨_,hS,rfl⟩,PySem.F.args_list_init_2 _ _,?_⟩;show wpAny _ _ (do let old ←Builtin.List.listItems (.ref s.heap.objs.size);Builtin.List.listUpdate (.ref s.heap.objs.size) (λ_=>#[]);letGo old.toList.reverse;Builtin.List.listExtendWith (.ref s.heap.objs.size) (.ref z) .none) _ _ _;refine wX ?_;unfold Builtin.List.listItems;refine wX (wpAny_seqItems hS rfl (wY ?_));show wpAny _ _ (updateSeq s.heap.objs.size (λ_=>#[])>>=λ_=>letGo (#[]:Array Value).toList.reverse>>=λ_=>Builtin.List.listExtendWith (.ref s.heap.objs.size) (.ref z) .none) _ _ _;refine wX (wpAny_updateSeq hS rfl ?_);have I2:=I1.lset (t':=s.toks) (ys:=[]) (its':=[]) (f:=λ_=>#[]) aw hS rfl .nil (uN _);have rj:=LJ.keep (h':=(s.heap.push { cls:=.type "list",data:=.seq #[] }).update s.heap.objs.size (Obj.mapSeq λ_=>(#[]:Array Value))) sU λb o hb e=>(Heap.get?_update_other _ _ (Ne.symm hb)).trans e;rw[jU]at I2;generalize hg2:(s.heap.push { cls:=.type "list",data:=.seq #[] }).update s.heap.objs.size (Obj.mapSeq λ_=>(#[]:Array Value))=g2 at I2 rj ⊢;obtain⟨_,uv,c2,v2,_,AB⟩:=I2.lstM aw;have e2:=v2.zero;subst e2;refine wX (wpAny_letGo ?_);unfold Builtin.List.listExtendWith;refine wX (wpAny_typeOf (T:="zip") rj.ty ?_);have LK:Builtin.List.listSameRef (.ref s.heap.objs.size) (.ref z)=false:=by simp[Builtin.List.listSameRef,nz]
 have lE:(Value.type "zip" == Value.type "list")=false:=by decide
 have Gh:(Value.type "zip" == Value.type "tuple")=false:=by decide
 simp only[LK,lE,Gh,Bool.or_false,uV,if_false];have Gc:IsZip g2 z TI TO .none:=by
  rw[←hg2];exact(Heap.get?_update_other _ _ nz).trans (vZ _ hz)
 refine wX (wpAny_pyIter_zip Gc ?_);refine wX (wpAny_holding ?_);unfold Builtin.List.listLengthHint;refine wX (wpAny_specialOf (T:="zip") rj.ty qR ?_);show wpAny _ _ (specialOf (Value.ref z) (Str.ofString "__length_hint__")>>=_) _ _ _;refine wX (wpAny_specialOf (T:="zip") rj.ty px ?_);refine wY ?_;show wpAny _ _ (rule "list.extend.makes-room" >>= λ_=>Builtin.List.listTouch (.ref s.heap.objs.size)>>=λ_=>
  again (.builtin "list.extend.loop" ⟨[.ref s.heap.objs.size,.ref z,.none],[]⟩)) _ _ _
 refine wX (wpAny_rule ?_);refine wX ?_;show wpAny _ _ (updateSeq s.heap.objs.size (·.push .none)>>=λ_=>updateSeq s.heap.objs.size (·.pop)) _ _ _;refine wX (wpAny_updateSeq AB rfl ?_);have I3:=I2.lset (t':=s.toks) (ys:=[.non]) (its':=[.none]) (f:=(·.push .none)) aw AB rfl (.cons (show aI .non .none from rfl) .nil) (by show 1<=sizeLine;decide);have E6:=rj.keep (h':=g2.update s.heap.objs.size (Obj.mapSeq (·.push .none))) sU λb o hb e=>(Heap.get?_update_other _ _ (Ne.symm hb)).trans e;rw[jU]at I3;generalize hg3:g2.update s.heap.objs.size (Obj.mapSeq (·.push .none))=g3 at I3 E6 ⊢;obtain⟨_,LL,c3,v3,_,Ge⟩:=I3.lstM aw;obtain⟨n3,rfl,r3⟩:=v3.one;cases r3
 refine wpAny_updateSeq (hz:=by simp<;>decide) Ge rfl ?_
 have I4:=I3.lset (t':=s.toks) (ys:=[]) (its':=[]) (f:=(·.pop)) aw Ge rfl .nil (uN _);have LM:=E6.keep (h':=g3.update s.heap.objs.size (Obj.mapSeq (·.pop))) sU λb o hb e=>(Heap.get?_update_other _ _ (Ne.symm hb)).trans e;rw[jU]at I4;refine wY ⟨plainId_quiet PySem.F.plain_extend_loop _,tX (A:=X.A.in1) (B:=B) (H0:=H) hA Z sU h1 j1 h2 j2 (λHc N vs s' I' FM xt il=>?_) _ 0 _ H B [] rfl (uN _) I4 hc (Ext.refl sB) (λb hb=>?_) LM .nil⟩
 ·exact⟨rfl,.ref s.heap.objs.size,_,I',rfl,q _ Hc N vs FM xt il⟩
 ·obtain⟨f0,f1⟩:=fp b hb;refine⟨?_,f1⟩;have nb:b≠s.heap.objs.size:=λe=>sU (e ▸ hb);rw[au nb];exact f0
end
@[simp] def IH (fa fb:FE):FE:=λρ=>(vK fa fb ρ).map λds=>(.lst ds,true)
section
variable {X:Cx}{a b:Expr}{pos p pos2 p2:Pos}
theorem qS (HU:X.calm=true)(hl:X.mg "list" = none)(hm:X.mg "zip" = none)(ha:JE X a fa)(hb:JE X b fb)(LN:Gl X "list":=by rfl)(hg:Gl X "zip":=by rfl)
  (hs:starEach [a,b] X.env=[(false,eval a X.env),(false,eval b X.env)]:=by rfl) (lE:starEach [b] X.env=[(false,eval b X.env)]:=by rfl)
  (Gh:starEach [.Call (.Name "zip" p2) [a,b] [] pos2] X.env=[(false,eval (.Call (.Name "zip" p2) [a,b] [] pos2) X.env)]:=by rfl):
  JE X (.Call (.Name "list" p) [.Call (.Name "zip" p2) [a,b] [] pos2] [] pos) (IH fa fb):=by
 intro ac s σ H Q I q;obtain⟨B,ρ,d,bb,sB,r,ee,g0⟩:=q;obtain⟨zs,JN,e2⟩:=oY ee;cases e2
 clear ee;have ee:=JN;clear JN;obtain⟨x1,ex,ee⟩:=oX ee;obtain⟨y1,ey,ee⟩:=oX ee;obtain⟨xs,HG,ee⟩:=oX ee;obtain⟨ys,HH,ee⟩:=oY ee;subst ee;refine wpAny_Call_Name_kw (g6 I LN hl io ?_ (by decide) (by decide));refine PyProof.Rows.callWith_type1 ?_ (by rw[Gh];rfl) rfl;rw[Gh];show wpAny _ _ (spliced ((false,eval (.Call (.Name "zip" p2) [a,b] [] pos2) X.env)::backTo pos [])) _ _ s;refine Calls.spliced_cons ?_;refine wpAny_Call_Name_kw (g6 I hg hm An ?_ (by decide) (by decide));refine PyProof.Rows.callWith_type1 (bX (ag ha (ag hb ae lE) (by rw[hs,lE]) pos2 ac s σ H (λvs H1=>∃N1,Ext B N1 H H1/\IsL X.K N1 vs [x1.1,y1.1]) I ⟨B,ρ,[x1.1,y1.1],sB,r,by simp[aa,af,ex,ey],λvs H1 N1 xt i1=>⟨N1,xt,i1⟩⟩) λus s1 ⟨vs,H1,I1,r1,N1,xt,il⟩=>?_) (by rw[hs,lE]) (by rw[lE];rfl);cases il with
 |cons j1 j2=>
  cases j2 with
  |cons j2 j3=>
   cases j3
   obtain⟨k1,l1,M2,rfl,h1,m1⟩:=oW j1 HG;obtain⟨k2,l2,M3,rfl,h2,m2⟩:=oW j2 HH;obtain⟨u1,u2,rfl,HE,HF⟩:=r1.two;cases HE
   cases HF
   obtain⟨its,v1,p1,z1⟩:=(h1.same xt.nh).vals I1;obtain⟨lT,v2,p2,z2⟩:=(h2.same xt.nh).vals I1;have zg:=p1.lt;have zG:=p2.lt;refine si p1 p2 λh' c1 c2 c3 c4 c5 ck=>?_;have D:ZApart (s1.heap.objs.size+4) (s1.heap.objs.size+2) (s1.heap.objs.size+3) s1.heap.objs.size (s1.heap.objs.size+1):=by
    constructor<;>(intro z;exact absurd z (by first|exact vS (Nat.add_lt_add_left (by decide) _)|exact Nat.ne_of_gt (Nat.add_lt_add_left (by decide) _)|exact vS (Nat.lt_add_of_pos_right (by decide))|exact Nat.ne_of_gt (Nat.lt_add_of_pos_right (by decide))))
   have nf:∀ {l:Addr}(n:Nat),l<s1.heap.objs.size->l≠s1.heap.objs.size+n:=λn hl=>vS (vQ hl (Nat.le_add_right _ n));refine Calls.spliced_nil ?_;refine lP (s:={ s1 with heap:=h' }) (k1:=k1) (k2:=k2) (B:=N1) (H:=H1) (I1.ok.hd HU) (I1.kept (t':=s1.toks) ck) ⟨D,⟨nf 4 zg,nf 3 zg,nf 0 zg⟩,⟨nf 4 zG,nf 3 zG,nf 0 zG,nf 1 zG⟩⟩ (λb hb=>?_) c2 c4 c5 c1 c3 xt.nh h1 m1 h2 m2 λS Hc N vs hS xF il2=>?_
   ·have zH:s1.heap.objs.size<=b:=by
     simp at hb;rcases hb with rfl|rfl|rfl|rfl|rfl
     ·exact Nat.le_add_right _ 4
     ·exact Nat.le_add_right _ 2
     ·exact Nat.le_add_right _ 3
     ·exact vT _
     ·exact Nat.le_add_right _ 1
    exact I1.fpOk zH (I1.hok.fresh zH)
   ·have x3:=(xt.trans xF).trans (Ext.laid (o:=.lst vs) xF.nh hS);have Fd:=il2.mono (Ext.laid (o:=.lst vs) xF.nh hS).bn;exact g0 _ _ _ x3 (.lst (fZ.of aw) Fd) λ_=>⟨_,_,_,rfl,rfl,(xt.trans xF).hh.free hS,aw,Fd⟩
end
@[simp] noncomputable def BG:D->D->OB
 |.lst ds,.int k=>if 0<=k/\ds.length*k.toNat<=1000/\k<=1000 then some (.lst (List.replicate k.toNat ds).flatten,true)else none
 |_,_=>none
@[simp] def yP (fa fb:FE):FE:=λρ=>(fa ρ).bind λx=>if x.2=true then (fb ρ).bind λy=>BG x.1 y.1 else none
theorem IsL.rep {K:Frag}{H:Hp}{vs:List V}{ds:List D}(h:IsL K H vs ds):∀k:Nat,IsL K H (List.replicate k vs).flatten (List.replicate k ds).flatten
 |0=>.nil
 |k+1=>by rw[List.replicate_succ,List.replicate_succ,List.flatten_cons,List.flatten_cons];exact h.append (IsL.rep h k)
section
variable {X:Cx}{a b:Expr}{pos:Pos}
theorem BH {fa fb:FE}(ha:JE X a fa)(hb:JE X b fb):JE X (.BinOp a .Mult b pos) (yP fa fb):=by
 refine PE.to (zY Bk ha hb) λσ H Q q=>?_;obtain⟨B,ρ,d,bb,sB,r,ee,q⟩:=q;obtain⟨x,ex,ee⟩:=oX ee;split at ee
 ·rename_i hx;obtain⟨⟨yd,yb⟩,ey,ee⟩:=oX ee;refine⟨B,ρ,x.1,x.2,sB,r,ex,λv H1 N1 x1 i1 fr=>⟨N1,ρ,yd,yb,x1.nh,r.mono x1.bn,ey,λu H2 N2 x2 i2 qd=>?_⟩⟩;obtain⟨a0,vs,ds,rfl,e1,h0,h1,il⟩:=fr hx;rw[e1]at ee;clear qd;cases i2<;>try (simp[BG]at ee;done)
  rename_i k;simp only[BG]at ee;split at ee
  ·rename_i hk;cases ee
   have hl:=il.length;refine⟨a0,k,vs,rfl,rfl,x2.nh _ _ (x2.bn _ _ h1),by omega,by omega,by rw[hl];exact vR hk.2.1 (by decide:(1000:Nat)<=sizeLine),λp hp=>?_⟩;have x3:=Ext.laid (o:=.lst (List.replicate k.toNat vs).flatten) x2.nh hp;have Fd:=((il.mono x2.bn).mono x3.bn).rep k.toNat;exact q _ _ _ ((x1.trans x2).trans x3) (.lst (fZ.of aw) Fd) λ_=>⟨_,_,_,rfl,rfl,(x1.trans x2).hh.free hp,aw,Fd⟩
  ·cases ee
 ·cases ee
end
end DL
namespace L2
open PySem PySem.Spec PyProof.Rows
theorem KV.get {b8:List (iA×V)}{vs:List (iA×Value)}(r:KV b8 vs){i:Nat}{k:iA}{x:V}(h:b8[i]? = some (k,x)):∃u,vs[i]? = some (k,u)/\aI x u:=by
 unfold KV at r;induction r generalizing i with
 |nil=>simp at h
 |@cons p q ps qs hq t ih=>
  cases i with
  |zero=>
   cases (show p=(k,x)from vJ h)
   obtain⟨q1,q2⟩:=q;exact⟨q2,by rw[show k=q1 from hq.1];rfl,hq.2⟩
  |succ i=>exact ih h
end L2
namespace DL
open PySem PySem.Spec PyProof.Rows L2
@[simp] abbrev cH (i:Nat)(j:Int):FE:=f2 cI (aj i) (fC (.int j))
theorem cm (F:Fn X.prog X.w X.K X.mg X.base k x f)(hr:cD j X.A)(ha:JA X (e::es) fa)(hj:k<=j:=by decide)(hg:Gl X x:=by rfl)(lx:(x == ("__debug__" : Str))=false:=by decide)(he:starEach (e::es) X.env=(false,eval e X.env)::starEach es X.env:=by rfl)(hpl:(backTo pos (starEach es X.env)).any (·.1)=false:=by rfl):JE X (.Call (.Name x p) (e::es) [] pos) (fA f fa):=rN F (hr.mono hj) ha hg lx he hpl
theorem Ea (h1:∀y∈scope.names,y.2≠.cell:=by decide +kernel)(h2:scope.kind=.function:=by rfl)(h3:∀y∈scope.names,y.2=.local->scope.names.lookup y.1=some .local:=by decide +kernel)(Hv:(scope.names.all λy=>!(y.2 == NameKind.free) || (X.env.cells.lookup y.1).isSome)=true:=by rfl):CompSc X scope (dj scope.names X.env.cells []):=Br h1 h2 h3 Hv
theorem II (h1:N'[j]? = some x)(h2:X.N[i]? = some x)(t:jf X N' scope (dj scope.names X.env.cells []) (j+1) r)(h3:X.env.kindOf x=some .cell∨X.env.kindOf x=some .free:=by exact Or.inl rfl)(h4:(relabel scope X.env).names.lookup x=some .cell∨(relabel scope X.env).names.lookup x=some .free:=by exact Or.inl rfl)(hf:(x,NameKind.free)∈scope.names:=by decide +kernel)(hc:(X.env.cells.lookup x).isSome=true:=by rfl):jf X N' scope (dj scope.names X.env.cells []) j (i::r):=.cons h1 h2 h3 h4 (y0 hf hc) t
end DL
namespace DL
open PySem PySem.Spec PySem.W PyProof.Rows L2
def GO:D->Option (List At)
 |.tup [.int n,.tup es]=>(qP es).map (.i n :: ·)
 |_=>none
def As:List D->Option (List (List At))
 |[]=>some []
 |d::ds=>(GO d).bind λa=>(As ds).map (a :: ·)
@[simp] abbrev GP:FE->(Env->D->Option D)->FE:=wm As λ_=>true
end DL
namespace DL
open PySem PySem.Spec PyProof.Rows L2
def Eb:Nat->(List Value->Prop)->Prop
 |0,P=>P []
 |n+1,P=>∀a,Eb n λl=>P (a::l)
theorem wz:∀n P,Eb n P->∀us:List Value,us.length=n->P us
 |0,_,h,[],_=>h
 |n+1,_,h,a::us,e=>wz n _ (h a) us (Nat.succ.inj e)
section
variable {P:Program}{w:World}{K:Frag}{mg:Str->Option Value}{base:Heap}
def KC (K:Frag)(mg:Str->Option Value)(x:Str)(c:D):Prop:=∃u v,mg x=some u/\aI v u/\∀B,Is K B v c
def KD (w:World)(K:Frag)(mg:Str->Option Value)(x:Str)(c:List (Str×D)):Prop:=∃d,mg x=some (.ref d)/\iO K w.params d c
theorem kc_of {x:Str}{c:D}{h:Heap}(X:K.In h)(G:h.Ns mainGlobals mg)(k:∃u v,PySem.W.nsIn K mainGlobals x=some (some u)/\aI v u/\∀B,Is K B v c):KC K mg x c:=let ⟨u,v,e,r⟩:=k;⟨u,v,mg_of X G e,r⟩
theorem kd_of {x:Str}{c:List (Str×D)}{h:Heap}(X:K.In h)(G:h.Ns mainGlobals mg)(k:∃d,PySem.W.nsIn K mainGlobals x=some (some (.ref d))/\iO K w.params d c):KD w K mg x c:=let ⟨d,e,r⟩:=k;⟨d,mg_of X G e,r⟩
theorem dS.fqL {x:Str}{st:Stmt}{k:Nat}{F':List D->OB}(F:dS K x st)(B:∃h,K.In h/\h.Ns mainGlobals mg)(g:FS)(N:List Str)(n:Nat)
  (hb:∀ {f:Addr}{bL:Value}{A:Around}{outer:List PySem.Env}{s:Shared}{H:Hp}{E:XK},N.Nodup->cD k (A.deeper (envOfC x (ar st) s.heap.objs.size f bL))->(A.deeper (envOfC x (ar st) s.heap.objs.size f bL)).units+40<cLine->(∀c P,PySem.W.tabIn K x=some (c,P)->bL=.ref c)->nZ (eB ko P w K mg base N x (ar st) f bL A outer s H E).nox (ba st) g)
  (S:FnScope N (N.take n) (ar st):=by refine⟨rfl,rfl,rfl,?_,rfl,?_,?_⟩<;>decide +kernel)
  (ro:∀(kV doc pm:Value)(an:Option Addr)(bL ct:Value)(us:List Value),us.length=(N.take n).length->bindArgs (fnOf x x (cz st) (ba st) (ar st) .none kV doc pm an bL ct) ⟨us,[]⟩=pure ((N.take n).zip us):=by
   exact λ_ _ _ _ _ _=>wz _ _ (by(repeat intro);rfl))
  (e:aZ g (N.take n).length (N.length - (N.take n).length)=F':=by rfl):
  Fn P w K mg base (k+1) x F':=let ⟨_,X,G⟩:=B;e ▸ F.fnL X G S ro λ_ _ _ _ _ _ _ hc hr=>hb S.nd hr (Bz hr) hc
theorem dS.fq {x:Str}{st:Stmt}{k:Nat}{F':List D->OB}(F:dS K x st)(B:∃h,K.In h/\h.Ns mainGlobals mg)(g:FS)(N:List Str)(n:Nat)
  (hb:∀ {f:Addr}{bL:Value}{A:Around}{outer:List PySem.Env}{s:Shared}{H:Hp}{E:XK},N.Nodup->cD k (A.deeper (envOfC x (ar st) s.heap.objs.size f bL))->(A.deeper (envOfC x (ar st) s.heap.objs.size f bL)).units+40<cLine->nZ (eB ko P w K mg base N x (ar st) f bL A outer s H E).nox (ba st) g)
  (S:FnScope N (N.take n) (ar st):=by refine⟨rfl,rfl,rfl,?_,rfl,?_,?_⟩<;>decide +kernel)
  (ro:∀(kV doc pm:Value)(an:Option Addr)(bL ct:Value)(us:List Value),us.length=(N.take n).length->bindArgs (fnOf x x (cz st) (ba st) (ar st) .none kV doc pm an bL ct) ⟨us,[]⟩=pure ((N.take n).zip us):=by
   exact λ_ _ _ _ _ _=>wz _ _ (by(repeat intro);rfl))
  (e:aZ g (N.take n).length (N.length - (N.take n).length)=F':=by rfl):
  Fn P w K mg base (k+1) x F':=F.fqL B g N n (λn r u _=>hb n r u) S ro e
end
section
variable {X:Cx}{x:Str}{pos:Pos}
theorem BI (i:Nat)(hN:X.N.Nodup)(hi:X.N[i]? = some x:=by rfl)(hx:zR X.env.scope x:=by first|exact Or.inl rfl|exact Or.inr rfl)(hf:X.fn x=true∨X.env.scope.names.lookup x=some .local:=by first|exact .inl rfl|exact .inr rfl):PG X (.Name x pos) (iH i):=r6 hN hi hx hf
theorem CB {fp}(i:Nat)(hN:N'.Nodup:=by decide +kernel)(hi:(ft X N' scope cl C s H fp).N[i]? = some x:=by rfl)(hx:zR (ft X N' scope cl C s H fp).env.scope x:=by exact Or.inl rfl)(hf:(ft X N' scope cl C s H fp).fn x=true∨(ft X N' scope cl C s H fp).env.scope.names.lookup x=some .local:=by first|exact .inl rfl|exact .inr rfl):PG (ft X N' scope cl C s H fp) (.Name x pos) (iH i):=r6 hN hi hx hf
theorem hU (N':List Str)(hi:JI X tg bR fi)(hc:∀ {C s H fp},JC (ft X N' scope (dj scope.names X.env.cells []) C s H fp) l7 fc)(he:∀ {C s H fp},JE (ft X N' scope (dj scope.names X.env.cells []) C s H fp) lS fe)
  (xw:Ah X.K nT jM g:=by first|exact o9 (by decide)|exact Al (by decide)) (hg:∀ {C s H fp},PG (ft X N' scope (dj scope.names X.env.cells []) C s H fp) tg g:=by intros;first|exact CB 0|exact uC rfl (fH (CB 0) (fH (CB 1) mP)))
  (cp:jf X N' scope (dj scope.names X.env.cells []) nT cap:=by repeat first|exact .nil rfl|refine II rfl rfl ?_)
  (S:CompSc X scope (dj scope.names X.env.cells []):=by exact Ea) (gt:X.calm=true:=by rfl)
  (hs:∀x,foldedSetIterable bR X.env x=pure x:=by intro _;rfl):
  JE X (.ListComp lS [⟨tg,bR,l7,0⟩] scope pos) (bN fi nT cap jM fc fe):=y3 gt S cp hi (λ_ _ _ _=>hg) xw (λ_ _ _ _=>hc) (λ_ _ _ _=>he) hs
theorem sv (N':List Str)(hN:X.N.Nodup)(hi:JI X tg bR fi)(hc:∀ {C s H fp},JC (ft X N' scope (dj scope.names X.env.cells []) C s H fp) l7 fc)(he:∀ {C s H fp},JE (ft X N' scope (dj scope.names X.env.cells []) C s H fp) lS fe)
  (xw:Ah X.K nT jM g:=by first|exact o9 (by decide)|exact Al (by decide)) (hg:∀ {C s H fp},PG (ft X N' scope (dj scope.names X.env.cells []) C s H fp) tg g:=by intros;first|exact CB 0|exact uC rfl (fH (CB 0) (fH (CB 1) mP)))
  (cp:jf X N' scope (dj scope.names X.env.cells []) nT cap:=by repeat first|exact .nil rfl|refine II rfl rfl ?_)
  (Hy:X.N[i]? = some y:=by rfl) (hy:X.env.kindOf y=some .local:=by rfl)
  (xz:swapsWith (.ListComp lS [⟨tg,bR,l7,0⟩] scope pos) (some (.Name y py)) spos.line X.env=pure true:=by rfl)
  (S:CompSc X scope (dj scope.names X.env.cells []):=by exact Ea) (gt:X.calm=true:=by rfl)
  (hs:∀x,foldedSetIterable bR X.env x=pure x:=by intro _;rfl):
  JS X (.Assign [.Name y py] (.ListComp lS [⟨tg,bR,l7,0⟩] scope pos) spos) (bt i (bN fi nT cap jM fc fe)):=y4 gt hN Hy hy xz S cp hi (λ_ _ _ _=>hg) xw (λ_ _ _ _=>hc) (λ_ _ _ _=>he) hs
theorem Ed (hi:JI X tg bR fi)(hg:PG X tg t)(ht:yy X.K jM t)(hb:nZ X body g)(hp:PassesOwn (model X.prog X.w) X.A X.env X.xe:=by exact PassesOwn.never)(hc:X.calm=true:=by rfl)
  (hs:∀x,foldedSetIterable bR X.env x=pure x:=by intro _;rfl):JS X (.For tg bR body [] pos) (t7 fi jM g):=By hp hc hi hg ht hb hs
theorem w4 (hi:PI X tg bR (C5 X.K fi))(hg:PG X tg t)(ht:yy X.K jM t)(hb:nZ X body g)(hp:PassesOwn (model X.prog X.w) X.A X.env X.xe:=by exact PassesOwn.never)(hc:X.calm=true:=by rfl)
  (hs:∀x,foldedSetIterable bR X.env x=pure x:=by intro _;rfl):JS X (.For tg bR body [] pos) (fN fi jM g):=yA hp hc hi hg ht hb hs
end
@[simp] abbrev fV (i:Nat)(g:FA):FA:=aa (aj i) g
@[simp] abbrev fI (n:Int):FE:=fC (.int n)
@[simp] abbrev fS (s:PySem.Str):FE:=fC (.str s)
section
variable {X:Cx}{es:List Expr}{g:FA}{pos:Pos}
theorem bv {x:Str}{p:Pos}(i:Nat)(hr:JA X es g)(hN:X.N[i]? = some x:=by rfl)(hv:xS X.env.scope x:=by first|exact Or.inl rfl|exact Or.inr (Or.inl rfl)|exact Or.inr (Or.inr rfl))(hd:(x == ("__debug__" : Str))=false:=by decide)(gq:(x == ("__classdict__" : Str))=false:=by decide)
  (hs:starEach (.Name x p::es) X.env=(false,eval (.Name x p) X.env)::starEach es X.env:=by rfl):JA X (.Name x p::es) (fV i g):=ag (ah i hN hv hd gq) hr hs
theorem aY {i:Int}{j:Nat}(hr:JA X es g):JA X (.Constant (.int i) j pos::es) (aa (fC (.int i)) g):=ag al hr
theorem bF (F:Fn X.prog X.w X.K X.mg X.base k x f)(hr:cD j X.A)(ha:JA X (e::es) g:=by repeat first|exact ae|refine bv _ ?_|refine ag av ?_)(hj:k<=j:=by decide)(hg:Gl X x:=by rfl)(lx:(x == ("__debug__" : Str))=false:=by decide)(he:starEach (e::es) X.env=(false,eval e X.env)::starEach es X.env:=by rfl)(hpl:(backTo pos (starEach es X.env)).any (·.1)=false:=by rfl):JE X (.Call (.Name x p) (e::es) [] pos) (fA f g):=rN F (hr.mono hj) ha hg lx he hpl
theorem bK (he:JE X e f):nZ X [.Return (some e) pos] (aX f):=cy (vm he)
theorem cn {c:Expr}{fc:FT}(hc:JT X c fc)(he:JE X e f):JS X (.If c [.Return (some e) p] [] pos) (di fc (aX f) aU):=gD hc (cy (vm he)) fw
theorem bc (i:Nat)(hN:X.N[i]? = some x:=by rfl)(hv:xS X.env.scope x:=by first|exact Or.inl rfl|exact Or.inr (Or.inl rfl)|exact Or.inr (Or.inr rfl))(hd:(x == ("__debug__" : Str))=false:=by decide)(gq:(x == ("__classdict__" : Str))=false:=by decide):JE X (.Subscript (.Name x p) (.Constant (.int n) j q) pos) (cH i n):=cJ (ah i hN hv hd gq) al
end
structure FnD (P:Program)(w:World)(K:Frag)(mg:Str->Option Value)(base:Heap)(k:Nat)(x:Str)(f:List D->OB):Prop where
 ex:∃(ad:Addr)(fd:FuncData)(ps:List Str),eZ P w K mg base ko k ad fd ps (xK K f)/\mg x=some (.ref ad)/\PySem.W.keepIn K (.ref ad)=true/\eA K fd ps []/\eA K fd ps [.none]
theorem FnD.fn {P:Program}{w:World}{K:Frag}{mg:Str->Option Value}{base:Heap}(F:FnD P w K mg base k x f):Fn P w K mg base k x f:=let ⟨ad,fd,ps,h1,h2,h3,h4,_⟩:=F.ex;⟨ad,fd,ps,h1,h2,h3,h4⟩
end DL
namespace DL
open PySem PySem.Spec PySem.W PyProof.Rows L2
def GQ (ns:List Int):Prop:=∀i∈ns,Builtin.Int.intBits i<=1048576
theorem BJ {ns:List Int}(h:WData.layableAll [WData.list (ns.map WData.int)]=true):GQ ns:=λi hi=>by
 have h1:(WData.list (ns.map WData.int)).layable=true:=layableW_arg h _ (List.mem_singleton.mpr rfl);have h2:=layableW_item h1 (WData.int i) (List.mem_map.mpr ⟨i,hi,rfl⟩);unfold WData.layable at h2;have h3:=of_decide_eq_true (vC _ _ ▸ h2).2;unfold WData.weight at h3;unfold Builtin.Int.intBits;omega
theorem walkB {l:PySem.W.OpenLaw}{q:Program}{Fe:List Str}{XP:(Str->Option Value)->Heap->Prop}{YP:World->Heap->Prop}{d:DefRec}{K:Params->Frag}{k:Nat}{x:Str}{f:List D->OB}{L:List (Str×Option (Addr×Addr))}(hn:l.most=some 63)(LO:d.params.defaults=[])(hr:cD k callerA)
  (hY:∀(w:World)(h:Heap),YP w h->(K w.params).In h) (hT:∀w:World,kc (K w.params) L) (hD:(L.all λp=>p.2.isNone || ((recsOf q).find? λe=>e.name == p.1).isSome)=true)
  (F:∀(w:World)(mg:Str->Option Value)(fa:Addr)(h:Heap),(K w.params).In h->h.Ns mainGlobals mg->mg d.name=some (.ref fa) ->
   ∃fd:FuncData,(∀(s:Shared)(u:Value),BindsTo s fd ⟨[u],[]⟩ [(x,u)])/\∀base:Heap,(K w.params).In base->base.Ns mainGlobals mg->eZ l.prog w (K w.params) mg base ko k fa fd [x] (xK (K w.params) f))
  (ht:∀ns:List Int,ns.length<=63->GQ ns->∃b,f [.lst (ns.map .int)]=some (.bl true,b)):PySem.W.WalkO q Fe XP YP l.row.toRowW d [] (λf vs=>PySem.call f vs):=by
 intro w s₀ s₁ mg mb G Y fa o pm cd doc dV kV ho hd gq hD' hmg hg args vals as z7 hlay hrd Hq hlo;obtain rfl:dV=.none:=Dflts.none hD' LO;obtain rfl:kV=.none:=Dflts.noKw hD';obtain⟨a,vs,ns,rfl,rfl,HV,Ff,bS⟩:=Att.tw hn z7 Hq;have KX:=hY w _ Y;obtain⟨fd,hb,hF⟩:=F w mg fa _ KX G.T.g hmg;refine enter_call (codeAny_mono (tG (nD L) (λb u e=>?_) (hT w).none KX G.T.g G.T.b G.T.builtins G.T.nolimit G.T.bmain hg HV Ff (vR bS (by decide)) hr hF hb λH hH hS=>?_) λr s' hq=>?_)
 ·obtain⟨p,hp,e2⟩:=List.mem_filterMap.mp (gF e);obtain⟨⟨c,P⟩,e3,e4⟩:=oY e2;cases e4
  have HW:=uR hD p hp;rw[e3]at HW;rw[Option.isNone_some,Bool.false_or]at HW;obtain⟨r,HY⟩:=Option.isSome_iff_exists.mp HW;have HZ:PySem.W.tabIn (K w.params) p.1=some (c,P):=by
   rw[(hT w).names]at hp;obtain⟨y,_,rfl⟩:=vO hp;exact e3
  obtain⟨h1,h2⟩:=PySem.W.tab_of G.T KX HY HZ;exact⟨h2,(h1.tab h2).isCodeTable⟩
 ·obtain⟨b,e⟩:=ht ns bS (BJ hlay);exact⟨H,_,_,b,⟨.refl H,(hT w).tb hH⟩,.cons (.lst hS (.flat rfl)) .nil,e,λv H' N x' i' _=>by cases i';rfl⟩
 ·obtain⟨rfl,h2,h3,h4⟩:=hq;exact⟨.inl ⟨.bool true,.bool true,[],rfl,λ_=>rfl,.bool true,Att.tx l _,λ_=>⟨List.Pairwise.nil,λ_ hm=>(nomatch hm)⟩⟩,h2,h3,h4⟩
structure OneK (α:Type)[DecidableEq α] where
 v:α->V
 ev:Value->α->Bool
 as:List D->Option (List α)
 AF:∀ {a:α}{u:Value},aI (v a) u->∀b,ev u b=decide (a=b)
 eq:∀ {A:Around}{s:Shared}{a b:α}{u u':Value},aI (v a) u->aI (v b) u'->PySem.SeqAt.EqAt A s u u' (ev u b)
 is:∀ {K:Frag}{B:Hp}{ws:List V}{ds:List D}{l:List α},IsL K B ws ds->as ds=some l->ws=l.map v
end DL
namespace EX
open PySem PySem.W
open Sem (wp)
section
variable {prog:Program}{w:World}{A:Around}{E:Value->Shared->Prop}{h:Heap}{g:Array GenState}{d:Drawn}{t:Nat}{os:OsState}
variable {nm q:Str}{C N:Addr}{bs bm Fg:List Value}{hdct:Bool}{sn:List Str}{sub:List Value}{ab:Bool}{col:Option Bool}{dd:Option Addr}{k0 k1 k2 k3 k5:Option Value}{B newId lA:String}
structure Ups (B:String)(bm:List Value):Prop where
 own:bm.contains (.type B)=true
 noA:bm.contains (.type "AttributeError")=false
 noN:bm.contains (.type "NameError")=false
 base:bm.contains (.type "BaseException")=true
theorem tY {M:Model}(F:ExcBaseFacts B newId lA Fg)(U:Ups B bm){ay:List Value}{Q:Unit->Shared->Prop}(hC:h.get? C=some (excClassObj nm q C N bs bm hdct sn sub ab col dd k0 k1 k2 k3 k5 newId))
  (hq:Q () ⟨h,g,d,t,os⟩):wpAny M A (checkBuiltinCall newId ⟨.ref C::ay,[]⟩) Q E ⟨h,g,d,t,os⟩:=by
 have Fh:(Value.ref C::bm).contains (.type B)=true:=by rw[List.contains_cons,U.own,Bool.or_true]
 have JP:=F.noStar;simp only[checkBuiltinCall,F.newKind,F.newSplit,F.newRow];repeat (first|refine wpAny_loadPart_at hC ?_|(refine wpAny_isSubtype_exc hC ?_;rw[Fh])|refine wpAny_staticBase_exc hC ?_|refine wpAny_madeBy_exc hC ?_|simp only[bne_self_eq_false,uV,if_false]|wp_step)
 exact hq
theorem yQ {R:Result->Shared->Prop}(F:ExcBaseFacts B newId lA Fg)(U:Ups B bm){ay:List Value}(hC:h.get? C=some (excClassObj nm q C N bs bm hdct sn sub ab col dd k0 k1 k2 k3 k5 newId))
  (hq:R (.ok (.ret (.ref (h.objs.size+1)))) ⟨(h.push { cls:=.type "tuple",data:=.seq ay.toArray }).push
   { cls:=.ref C,data:=.fields #[.ref h.objs.size,.none,.none,.none,.bool false,.none] },g,d,t,os⟩) (hrest:ay.length<=sizeLine:=by size_fits):
  codeAny (model prog w) A (.builtin newId ⟨.ref C::ay,[]⟩) R ⟨h,g,d,t,os⟩:=by
 have JQ:=F.ends;have Ia:(Value.ref C::bm).contains (.type B)=true:=by rw[List.contains_cons,U.own,Bool.or_true]
 have LP:(Value.ref C::bm).contains (.type "AttributeError")=false:=by rw[List.contains_cons,U.noA];rfl
 have LQ:(Value.ref C::bm).contains (.type "NameError")=false:=by rw[List.contains_cons,U.noN];rfl
 refine codeAny_builtinAt F.entry ?_;unfold Builtin.«BaseException.__new__»;refine wpAt_bind ?_;show wpAt _ _ _ (stack>>=_) _ _ _;refine wpAt_bind (wpAt_stack λp below=>wpAt_of_wpAny ?_);wp_walk;refine wpAt_of_wpAny ?_;rw[F.owner];repeat (first|with_reducible refine wpAny_madeHere_exc F.canon hC ?_|with_reducible refine wpAny_loadPart_at hC ?_|(with_reducible refine wpAny_isSubtype_exc hC ?_;first|rw[Ia]|rw[LP]|rw[LQ])|wp_step)
 show R _ _;rw[Heap.size_push];exact hq
theorem tZ {K:Frag}(X:K.In h)(F:ExcBaseFacts B newId lA Fg)(U:Ups B bm){ay:List Value}{fI:Addr}{oI:Obj}{Q:Fin->Shared->Prop}
  (hC:h.get? C=some (excClassObj nm q C N bs bm hdct sn sub ab col dd k0 k1 k2 k3 k5 newId)) (hi:findIn K (.ref C) "__init__" = some (some (.ref fI)))
  (Ib:h.get? fI=some oI) (Ic:oI.cls=.type "function")
  (hq:∀h' e,Heap.MadeExcOf h h' e (.ref C) ay->h.objs.size<=e ->
   wpAny (model prog w) A (call (.ref fI) (.ref e::ay)) (λr s'=>r=.none/\Q (.done (.ret (.ref e))) s') E ⟨h',g,d,t,os⟩) (hrest:ay.length<=sizeLine:=by size_fits):
  wpAny (model prog w) A (Builtin.«type.__call__» ⟨.ref C::ay,[]⟩) Q E ⟨h,g,d,t,os⟩:=by
 repeat (first|with_reducible refine wpAny_loadPart_at hC ?_|with_reducible refine wpAny_madeBy_exc hC ?_|wp_step)
 refine codeAny_call_builtin_code (Code.quiet_builtin _ F.quiet) (tY F U hC ?_);refine yQ F U hC ?_ hrest;show wpAny _ _ _ _ _ _;have kp:∀b o,h.get? b=some o->((h.push { cls:=.type "tuple",data:=.seq ay.toArray }).push { cls:=.ref C,data:=.fields #[.ref h.objs.size,.none,.none,.none,.bool false,.none] }).get? b=some o :=
  λb o e=>vZ _ (vZ _ e)
 have Fi:=kp _ _ hC;have Cu:=kp _ _ Ib;have zL:((h.push { cls:=.type "tuple",data:=.seq ay.toArray }).push
   { cls:=.ref C,data:=.fields #[.ref h.objs.size,.none,.none,.none,.bool false,.none] }).get? (h.objs.size+1)=some
   { cls:=.ref C,data:=.fields #[.ref h.objs.size,.none,.none,.none,.bool false,.none] }:=by heap_get
 have LR:(Value.ref C::bm).contains (.ref C)=true:=by simp
 unfold isInstance;repeat (first|with_reducible refine wpAny_loadPart_at zL ?_|(with_reducible refine wpAny_isSubtype_exc Fi ?_;rw[LR])|wp_step)
 show wpAny _ _ (typeLookup (.ref C) _) _ _ _;refine looks_findIn X hi _ _ _ _ kp ?_;refine wpAny_holding (wX ?_);unfold bindSpecial;refine wX (wpAny_typeOf (T:="function") ⟨_,Cu,Ic⟩ ?_);rw[if_pos (by decide)];refine wY (wX (wpAny_mono (hq _ (h.objs.size+1) ⟨kp,Heap.get?_none_of_le (Nat.le_succ _),h.objs.size,zL,Heap.get?_none_of_le (vT _),?_⟩ ?_) (λr s' hr=>?_) λ_ _ x=>x))
 ·exact vZ _ (Heap.get?_push_at rfl rfl)
 ·exact Nat.le_succ _
 ·obtain⟨rfl,hQ⟩:=hr;wp_walk;exact hQ
theorem w5 {K:Frag}(X:K.In h)(F:ExcBaseFacts B newId lA Fg)(U:Ups B bm){ay:List Value}{fI:Addr}{oI:Obj}{Q:Value->Shared->Prop}
  (hC:h.get? C=some (excClassObj nm q C N bs bm hdct sn sub ab col dd k0 k1 k2 k3 k5 newId)) (hi:findIn K (.ref C) "__init__" = some (some (.ref fI)))
  (Ib:h.get? fI=some oI) (Ic:oI.cls=.type "function")
  (hq:∀h' e,Heap.MadeExcOf h h' e (.ref C) ay->h.objs.size<=e ->
   wpAny (model prog w) (A.under (.builtin "type.__call__" ⟨.ref C::ay,[]⟩)) (call (.ref fI) (.ref e::ay)) (λr s'=>r=.none/\Q (.ref e) s') E ⟨h',g,d,t,os⟩) (hrest:ay.length<=sizeLine:=by size_fits):
  wpAny (model prog w) A (call (.ref C) ay) Q E ⟨h,g,d,t,os⟩:=by
 have f1:=tc_lookup;have f2:=tc_bind (.ref C);have hT:(⟨h,g,d,t,os⟩:Shared).TypeIs (.ref C) "type":=⟨_,hC,rfl⟩;refine wpAny_call (codeAny_of_tree ?_);show wpAny _ _ (callAny (.ref C) _) _ _ _;repeat (any_goals (first|assumption|with_reducible refine wpAny_loadPart_at hC ?_|wp_step))
 refine⟨rfl,?_⟩;refine codeAny_call_builtin_at (Code.quiet_builtin _ (by decide +kernel)) entry_typeCall (wpAny_check_type_call_sub hC (tZ (hrest:=hrest) X F U hC hi Ib Ic λh' e hm hs=>?_));exact hq h' e hm hs
theorem qT {M:Model}{env:PySem.Env}{s:Shared}{x:Sem Value}{Q:Flow->Shared->Prop}(U:Ups B bm)(hh:A.handled=none)
  (hx:wpAny M A x (λv s₁=>∃e t0 dx,v=.ref e/\s₁.heap.get? C=some (excClassObj nm q C N bs bm hdct sn sub ab col dd k0 k1 k2 k3 k5 newId) /\
   s₁.heap.get? e=some { cls:=.ref C,dict:=dx,data:=.fields #[.ref t0,.none,.none,.none,.bool false,.none] }/\E (.ref e) s₁) E s):
  wpAny M A (raiseStmt env (some x) none) Q E s:=by
 have Ia:(Value.ref C::bm).contains (.type "BaseException")=true:=by rw[List.contains_cons,U.base,Bool.or_true]
 unfold raiseStmt;refine wX (wpAny_mono hx (λv s₁ h₁=>?_) λ_ _ x=>x);obtain⟨e,t0,dx,rfl,hC,he,hE⟩:=h₁;obtain⟨hp,g,d,tk,os⟩:=s₁;repeat (first|with_reducible refine wpAny_loadPart_at he ?_|with_reducible refine wpAny_loadPart_at hC ?_|(with_reducible refine wpAny_isSubtype_exc hC ?_;rw[Ia])|wp_step)
 exact wpAny_raiseNew_none hh hE
end
end EX
namespace EX
open PySem PySem.W Builtin Builtin.ObjectAttr
open Sem (wp)
section
variable {prog:Program}{w:World}{A:Around}{E:Value->Shared->Prop}{h:Heap}{g:Array GenState}{d:Drawn}{t:Nat}{os:OsState}
variable {nm q:Str}{C N x:Addr}{bs bm Fg:List Value}{sn:List Str}{sub:List Value}{ab:Bool}{col:Option Bool}{dd:Option Addr}{k0 k1 k2 k3 k5:Option Value}{B newId lA:String}{name:Str}{v:Value}{o:Obj}
theorem ua {K:Frag}(X:K.In h){tk:Tok}{Q:Fin->Shared->Prop}(hp:∀self:Value,refuseLoop self "__setattr__" bm=pure ())
  (hC:h.get? C=some (excClassObj nm q C N bs bm true sn sub ab col dd k0 k1 k2 k3 k5 newId)) (xG:findIn K (.ref C) name=some none)
  (hx:h.get? x=some o) (hc:o.cls=.ref C) (AG:∀c,o.data≠.cls c) (Gi:o.dict=none)
  (hq:∀h' zM,h'.get? x=some { o with dict:=some h.objs.size }->h'.Ns1 h.objs.size (λy=>if y=name then some v else none)->(∀b ob,b≠x->h.get? b=some ob->h'.get? b=some ob)->Q (.done (.ret .none)) ⟨h',g,d,zM,os⟩):
  wpAny (model prog w) A (Builtin.«object.__setattr__» ⟨[.ref x,.str name tk,v],[]⟩) Q E ⟨h,g,d,t,os⟩:=by
 have Fj:=hp (.ref x);have L:=looks_findIn (M:=model prog w) X xG;unfold Builtin.«object.__setattr__»;repeat (first|rw[refuse_eq]|(rw[refuseLoop_ref,Fj])|(with_reducible refine wpAny_loadPart_at hx ?_;rw[hc])|with_reducible refine wpAny_mroOf_exc hC ?_|wp_step)
 refine L _ _ _ _ (λ_ _ e=>e) ?_;repeat (first|(with_reducible refine wpAny_loadPart_at hx ?_;rw[hc])|with_reducible refine wpAny_loadPart_at hC ?_|wp_step)
 rw[Gi,if_neg (by simp[typeHasDict])];split
 ·rename_i gq;cases gq
 split
 ·rename_i c gq;exact absurd gq (AG c)
 ·have AH:(h.push { cls:=.type "dict",data:=.dict #[] }).get? x=some o:=vZ _ hx;have CS:x≠h.objs.size:=vS (vX hx);refine wX (wpAny_alloc' ?_);refine wX (wpAny_update' AH ?_);refine wY ?_;have LS:((h.push { cls:=.type "dict",data:=.dict #[] }).update x λo=>{ cls:=o.cls,dict:=some h.objs.size,data:=o.data,slots:=o.slots }).get? h.objs.size
    = some { cls:=.type "dict",data:=.dict #[] } :=
   (Heap.get?_update_ne _ _ _ _ CS.symm).trans (Heap.get?_push_at rfl rfl)
  have Fk:((h.push { cls:=.type "dict",data:=.dict #[] }).update x λo=>{ cls:=o.cls,dict:=some h.objs.size,data:=o.data,slots:=o.slots }).Ns h.objs.size (λ_=>none) :=
   ⟨_,#[],_,LS,rfl,λe he=>absurd he (by simp),λ_=>rfl⟩
  show wpAny _ _ (storeInDict h.objs.size (.str name tk) name v) _ _ _;unfold storeInDict newKeyGuard;refine wX (wY (wX (wpAny_nsSet1 (Heap.Ns1.of_empty Fk) λh' CJ hs=>?_)));obtain⟨oD,M4,M5,LU,LV,zN⟩:=CJ.count (Within.cons name v Within.nil);refine wX (wpAny_lookBehind LU (by rw[LV];exact pastItsLine_dict (vR zN (by rw[vD,List.length_nil,sizeLine_eq];omega))) ?_);wp_walk;refine hq h' _ ?_ ?_ (λb ob hbx hb=>?_)
  ·refine(hs.2 x CS).trans (Heap.get?_update_self _ AH ?_);have qd:=(Heap.get?_some_iff.mp hx).2;obtain⟨oc,od,LW,jy⟩:=o;cases LW<;>first|rfl|exact qd
  ·exact CJ
  ·exact(hs.2 b (vS (vX hb))).trans ((Heap.get?_update_ne _ _ _ _ hbx).trans (vZ _ hb))
theorem yR {K:Frag}(X:K.In h){Q:Unit->Shared->Prop}(hp:∀self:Value,refuseLoop self "__setattr__" bm=pure ())(LX:mroIn K C (.type "object")=some true)
  (hC:h.get? C=some (excClassObj nm q C N bs bm true sn sub ab col dd k0 k1 k2 k3 k5 newId)) (hs:findIn K (.ref C) "__setattr__" = some (some (.builtin "object.__setattr__"))) (xG:findIn K (.ref C) name=some none)
  (hx:h.get? x=some o) (hc:o.cls=.ref C) (AG:∀c,o.data≠.cls c) (Gi:o.dict=none)
  (hq:∀h' zM,h'.get? x=some { o with dict:=some h.objs.size }->h'.Ns1 h.objs.size (λy=>if y=name then some v else none)->(∀b ob,b≠x->h.get? b=some ob->h'.get? b=some ob)->Q () ⟨h',g,d,zM,os⟩):
  wpAny (model prog w) A (setAttr (.ref x) name v) Q E ⟨h,g,d,t,os⟩:=by
 have SF:=PySem.F.store_object;have I:InstAt h x o C none:=⟨hx,hc,by unfold notCls;split<;>first|rfl|(rename_i c q;exact absurd q (AG c)),by rw[Gi];trivial⟩
 refine set_plain X I hs ?_;have sb:Looks (model prog w) h (isInstance (.ref x) (.type "object")) true:=I.type.andThen (looks_mroIn X LX);refine codeAny_call_builtin SF.slot.plain SF.entry (@check_slot (model prog w) _ _ ⟨h,g,d,t+1,os⟩ "object.__setattr__" "object" "__setattr__" (.ref x) [.str name t,v] [] _ SF.kind SF.split sb (SF.args (.ref x) (.str name t) v) ?_);exact ua X hp hC xG hx hc AG Gi λh' zM a1 a2 a3=>hq h' zM a1 a2 a3
end
open Sem (wp)
theorem pz:builtinKind "BaseException.__getattribute__" = some .slot:=by decide +kernel
theorem m7:splitId "BaseException.__getattribute__" = some ("BaseException","__getattribute__"):=by decide +kernel
section
variable {prog:Program}{w:World}{A:Around}{E:Value->Shared->Prop}{s:Shared}{K:Frag}{x C:Addr}{ox:Obj}{od:Option Obj}{name:Str}{Ci:Bool}{Q:Value->Shared->Prop}{v:Value}
theorem yS (X:K.In s.heap)(I:InstAt s.heap x ox C od)(Fl:findIn K (.ref C) "__getattribute__" = some (some (.builtin "BaseException.__getattribute__")))(hk:findIn K (.ref C) "__getattr__" = some none)
  (hb:mroIn K C (.type "BaseException")=some true) (hf:findObj K C od name=some (.value v)) (hh:handedIn v=true) (h:Q v { s with toks:=s.toks+1 }):wpAny (model prog w) A (getAttr (.ref x) name Ci) Q E s:=by
 obtain⟨CT,g,d,t,os⟩:=s;have L0:=I.type (M:=model prog w);have L1:=looks_findIn (M:=model prog w) X Fl;have L2:=looks_findIn (M:=model prog w) X hk;have L3:=looks_find (M:=model prog w) X I hf;have sb:Looks (model prog w) CT (isInstance (.ref x) (.type "BaseException")) true:=L0.andThen (looks_mroIn X hb);have FX:=PySem.F.excAttr_ValueError;unfold getAttr getAttrBy;refine wX (wpAny_mkText (wpAny_holding (wX (L0.at (wX (L1.at ?_))))));show wpAny _ _ (getAttrByItsOwn _ _ _ _ _ _) _ _ _;unfold getAttrByItsOwn hookBefore;refine wX ?_;rw[if_pos (show onTheHeap (Value.ref C)=true from rfl)];refine L2.at ?_;refine wX (wpAny_attempt (wpAny_holding ?_));unfold callGetattribute;rw[if_neg (by cases Ci<;>decide)]
 unfold boundAndCalled;refine wX ?_;rw[FX.ga.bind (.ref x)];refine wY ?_;refine wpAny_call (codeAny_call_builtin FX.ga.plain F.entry_bexc_ga (@check_slot (model prog w) _ _ ⟨CT,g,d,t+1,os⟩ "BaseException.__getattribute__" "BaseException" "__getattribute__" (.ref x) [.str name t] [] _ pz m7 sb (F.args_bexc_ga (.ref x) (.str name t)) ?_));unfold Builtin.«object.__getattribute__»;refine wX (wY (wX (wY (wX (L0.at (wX (L3.at ?_)))))));refine wY ?_;show wpAny _ _ (handedOut v) _ _ _;rw[handedOut_of hh];exact wY h
end
open Sem (wp)
section
variable {prog:Program}{w:World}{A:Around}{E:Value->Shared->Prop}{s:Shared}{K:Frag}{x C:Addr}{ox:Obj}{od:Obj}{name:Str}{v:Value}
theorem yT {Q:Option Value->Shared->Prop}(X:K.In s.heap)(I:InstAt s.heap x ox C (some od))(Fl:findIn K (.ref C) "__getattribute__" = some (some (.builtin "BaseException.__getattribute__")))(hk:findIn K (.ref C) "__getattr__" = some none)
  (hb:mroIn K C (.type "BaseException")=some true) (hdct:hasDictIn K C=true) (ha:findIn K (.ref C) "__class__" = some (some (.builtin "object.__class__")))
  (hn:specialIn K (.builtin "object.__class__") "__get__" = some (some (.builtin "getset_descriptor.__get__"))) (CK:takesIn K (.builtin "object.__class__")=some true) (hm:mroIn K C (.type "object")=some true)
  (h:Q (some (.ref C)) { s with toks:=s.toks+1 }):wpAny (model prog w) A (getAttr? (.ref x) "__class__") Q E s:=by
 obtain⟨CT,g,d,t,os⟩:=s;have L0:=I.type (M:=model prog w);have L1:=looks_findIn (M:=model prog w) X Fl;have L2:=looks_findIn (M:=model prog w) X hk;obtain⟨cd,gq,_⟩:=any_some hdct;have hf:findObj K C (some od) "__class__" = some (.bind (.builtin "getset_descriptor.__get__") (.builtin "object.__class__")):=findObj_data (by rw[gq];rfl) ha hn CK;have L3:=looks_find (M:=model prog w) X I hf;have sb:Looks (model prog w) CT (isInstance (.ref x) (.type "BaseException")) true:=L0.andThen (looks_mroIn X hb);have FX:=PySem.F.excAttr_ValueError;unfold getAttr? getAttrBy?;refine wX (wpAny_mkText (wX (wpAny_attempt ?_)));unfold getAttrBy;refine wpAny_holding (wX (L0.at (wX (L1.at ?_))));show wpAny _ _ (getAttrByItsOwn _ _ _ _ _ _) _ _ _;unfold getAttrByItsOwn hookBefore;refine wX ?_;rw[if_pos (show onTheHeap (Value.ref C)=true from rfl)];refine L2.at ?_;refine wX (wpAny_attempt (wpAny_holding ?_));unfold callGetattribute;rw[if_neg (by decide)];unfold boundAndCalled;refine wX ?_;rw[FX.ga.bind (.ref x)];refine wY ?_;refine wpAny_call (codeAny_call_builtin FX.ga.plain F.entry_bexc_ga (@check_slot (model prog w) _ _ ⟨CT,g,d,t+1,os⟩ "BaseException.__getattribute__" "BaseException" "__getattribute__" (.ref x) [.str "__class__" t] [] _ pz m7 sb (F.args_bexc_ga (.ref x) (.str "__class__" t)) ?_));unfold Builtin.«object.__getattribute__»;refine wX (wY (wX (wY (wX (L0.at (wX (L3.at ?_)))))));show wpAny _ _ (holding [Value.builtin "object.__class__"] (call (.builtin "getset_descriptor.__get__") [.builtin "object.__class__",.ref x,.ref C])>>=ret) _ _ _;refine wX (wpAny_holding (wpAny_call (class_get (s:=⟨CT,g,d,t+1,os⟩) (ox:=ox) (od:=some od) X I hm ?_)));refine wY ?_;exact wY (wY h)
theorem w6 (Fl:findIn K (.ref C) "__getattribute__" = some (some (.builtin "BaseException.__getattribute__")))(hk:findIn K (.ref C) "__getattr__" = some none)
  (hb:mroIn K C (.type "BaseException")=some true) (hdct:hasDictIn K C=true) (ha:findIn K (.ref C) "__class__" = some (some (.builtin "object.__class__")))
  (hn:specialIn K (.builtin "object.__class__") "__get__" = some (some (.builtin "getset_descriptor.__get__"))) (CK:takesIn K (.builtin "object.__class__")=some true) (hm:mroIn K C (.type "object")=some true):
  KitX K (.ref x) (.ref C) (λh=>∃ox od,InstAt h x ox C (some od)) where
 ty:=λ_ _ _ ⟨_,_,I⟩=>I.type
 it:=λ_ _ X _=>by
  obtain⟨IL,zN,_⟩:=any_some hdct;unfold clsIn at zN;split at zN
  ·rename_i c' d' cd' Ey ho;intro A' Q' E' s' k q;unfold isType loadHead;exact wX (wpAny_loadPart (k _ _ (X _ _ ho)) (wY q))
  ·cases zN
 ne:=λh tp dd its n sl X htp=>by
  obtain⟨IL,zN,_⟩:=any_some hdct;refine Bool.eq_false_iff.mpr λq=>?_;have e:C=tp:=Value.ref.inj (beq_iff_eq.mp q);subst e;unfold clsIn at zN;split at zN
  ·rename_i c' d' cd' Ey ho;have z:=(X _ _ ho).symm.trans htp;cases z
  ·cases zN
 ca:=λX ⟨_,_,I⟩ k=>yT X I Fl hk hb hdct ha hn CK hm k
end
end EX
namespace EX
open PySem PySem.W
def Kp (fr ch:List Addr)(h h':Heap):Prop:=∀b o,h.get? b=some o->b∉ch->(b∉fr->h'.get? b=some o)/\∃sl,h'.get? b=some { o with slots:=sl }
theorem Kp.trans {fr ch:List Addr}{h h1 h2:Heap}(k1:Kp fr ch h h1)(k2:Kp fr ch h1 h2):Kp fr ch h h2:=λb o e n=>by
 obtain⟨a1,sl,a2⟩:=k1 b o e n;obtain⟨_,FR,a3⟩:=k2 b _ a2 n;exact⟨λhf=>(k2 b o (a1 hf) n).1 hf,FR,a3⟩
theorem Kp.more {fr ch ch':List Addr}{h h':Heap}(k:Kp fr ch h h')(s:∀b o,h.get? b=some o->b∈ch->b∈ch'):Kp fr ch' h h':=λb o e n=>k b o e λz=>n (s b o e z)
theorem Kp.other {fr:List Addr}{a:Addr}(h:Heap)(f:Obj->Obj):Kp fr [a] h (h.update a f):=λb o e n=>by
 have:(h.update a f).get? b=some o:=by rw[Heap.get?_update_other _ _ (λz=>n (by rw[z];exact List.mem_singleton.mpr rfl))];exact e
 exact⟨λ_=>this,o.slots,this⟩
theorem Kp.push {fr ch:List Addr}(h:Heap)(o':Obj):Kp fr ch h (h.push o'):=λb o e _=>⟨λ_=>vZ _ e,o.slots,vZ _ e⟩
theorem w9 {h:Heap}{a:Addr}{o:Obj}{vs:Array Value}(ho:h.get? a=some o)(hd:o.data=.fields vs)(i:Nat)(x:Value):
  (h.update a (Obj.mapFields (·.setIfInBounds i x))).get? a=some { o with data:=.fields (vs.setIfInBounds i x) }:=by
 have e:Obj.mapFields (·.setIfInBounds i x) o={ o with data:=.fields (vs.setIfInBounds i x) }:=by
  obtain⟨c,d,dt,sl⟩:=o;change dt=.fields vs at hd;subst hd;rfl
 have:=Heap.get?_update_self (Obj.mapFields (·.setIfInBounds i x)) ho (by rw[e];rfl);rw[this,e]
section
variable {M:Model}{A:Around}{E:Value->Shared->Prop}{s:Shared}{base:Heap}{env:Env}{outer:List Env}{L e:Addr}{oe:Obj}{vs:Array Value}
theorem wA {head:Value}{LY:Bool}{Q:Unit->Shared->Prop}(qd:A.frames=some (env::outer))(hl:s.heap.FunFrames base (env::outer))(hf:env.frame=some L)
  (he:s.heap.get? e=some oe) (hd:oe.data=.fields vs) (hsz:1<vs.size)
  (h:∀h' T oT ts,h'.get? e=some { oe with data:=.fields (vs.setIfInBounds 1 (.ref T)) }->s.heap.objs.size<=T->h'.get? T=some oT->oT.data=.fields ts->ts[3]? = some (rawInt L)->Kp (L::outer.filterMap (·.frame)) [e] s.heap h'->Q () { s with heap:=h' }):
  wpAny M A (frameOf env>>=λa=>entryPlaceOf L LY>>=λpl=>EntryCells.newEntry head a .none (rawInt L) .none pl>>=λb=>setField (.ref e) 1 b) Q E s:=by
 have qf:(env::outer).filterMap (·.frame)=L::outer.filterMap (·.frame):=by rw[List.filterMap_cons,hf]
 have xO:e∉L::outer.filterMap (·.frame):=λhm=>by
  obtain⟨_,o,ho,hn⟩:=hl.mem (b:=e) (by rw[qf];exact hm);rw[he]at ho;cases ho;exact hn vs hd
 refine wX (wpAny_frameOf_fun qd hl hf λh1 k1=>wX (wpAny_entryPlaceOf λpl hp=>?_));rw[qf]at k1;have Ie:h1.get? e=some oe:=(k1.2.1 e xO).trans he;unfold EntryCells.newEntry newFields;refine wX (wpAny_newObj_type (wpAny_setField (vZ _ Ie) hd hsz ?_) (hp.sizeOk5 _ _ _ _ _));have nT:h1.objs.size≠e:=Nat.ne_of_gt (vX Ie);refine h _ h1.objs.size _ _ (w9 (vZ _ Ie) hd 1 _) ?_ ((Heap.get?_update_other _ _ (Ne.symm nT)).trans (vY h1 rfl)) rfl ?_ ?_
 ·exact Nat.le_of_eq k1.1.symm
 ·first|(simp;done)|(rcases hp with rfl|⟨_,_,_,_,_,_,_,rfl⟩<;>simp)
 ·intro b o hb hn;have xM:b≠e:=λz=>hn (by rw[z];exact List.mem_singleton.mpr rfl);obtain⟨sl,z⟩:=k1.2.2 b o hb;exact⟨λq=>(Heap.get?_update_other _ _ (Ne.symm xM)).trans (vZ _ ((k1.2.1 b q).trans hb)),sl,(Heap.get?_update_other _ _ (Ne.symm xM)).trans (vZ _ z)⟩
structure u7 (h:Heap)(e T:Addr)(c:Value)(dx:Option Addr)(fl:Value):Prop where
 ob:∃o vs,h.get? e=some o/\o.cls=c/\o.dict=dx/\o.data=.fields vs/\vs[1]? = some (.ref T)
 tb:∃o ts,h.get? T=some o/\o.data=.fields ts/\ts[3]? = some fl
 ne:T≠e
theorem u7.land {T:Addr}{c:Value}{dx:Option Addr}{fl:Value}{fr:List Addr}{Q:Unit->Shared->Prop}(F:u7 s.heap e T c dx fl)
  (h:∀h',u7 h' e T c dx .none->Kp fr [T] s.heap h'->Q () { s with heap:=h' }):wpAny M A (setFlight (.ref e) none) Q E s:=by
 obtain⟨⟨o,vs,ho,hc,hx,hd,h1⟩,⟨oT,ts,hT,CU,h3⟩,ne⟩:=F;unfold setFlight;refine wX (wpAny_field ho hd h1 ?_);rw[if_pos (show(Value.ref T != Value.none)=true from by simp)];refine wpAny_setField hT CU (Array.getElem?_eq_some_iff.mp h3).1 (h _ ⟨⟨o,vs,(Heap.get?_update_other _ _ ne).trans ho,hc,hx,hd,h1⟩,⟨_,_,w9 hT CU 3 _,rfl,?_⟩,ne⟩ (Kp.other _ _));rw[Array.getElem?_setIfInBounds_self_of_lt (Array.getElem?_eq_some_iff.mp h3).1];rfl
theorem qU {dx:Option Addr}{Q:Unit->Shared->Prop}(qd:A.frames=some (env::outer))(hl:s.heap.FunFrames base (env::outer))(hf:env.frame=some L)
  (he:s.heap.get? e=some oe) (hd:oe.data=.fields vs) (h1:vs[1]? = some .none) (hx:oe.dict=dx)
  (h:∀h' T,u7 h' e T oe.cls dx (rawInt L)->s.heap.objs.size<=T->Kp (L::outer.filterMap (·.frame)) [e] s.heap h'->Q () { s with heap:=h' }):wpAny M A (noteFrame (.ref e) env) Q E s:=by
 have hs:=(Array.getElem?_eq_some_iff.mp h1).1;unfold noteFrame;simp only[hf];refine wX (wpAny_field he hd h1 ?_);rw[if_neg (by decide)];refine wA qd hl hf he hd hs λh' T oT ts a1 a2 a3 a4 a5 a6=>h h' T ⟨⟨_,_,a1,rfl,hx,rfl,by rw[Array.getElem?_setIfInBounds_self_of_lt hs]⟩,⟨_,_,a3,a4,a5⟩,λz=>absurd (vX he) (by rw[←z];exact Nat.not_lt.mpr a2)⟩ a2 a6
theorem ub {T:Addr}{c:Value}{dx:Option Addr}{Q:Unit->Shared->Prop}(qd:A.frames=some (env::outer))(hl:s.heap.FunFrames base (env::outer))(hf:env.frame=some L)(F:u7 s.heap e T c dx .none)
  (h:∀h' T',u7 h' e T' c dx (rawInt L)->s.heap.objs.size<=T'->Kp (L::outer.filterMap (·.frame)) [e,T] s.heap h'->Q () { s with heap:=h' }):wpAny M A (noteFrame (.ref e) env) Q E s:=by
 obtain⟨⟨o,vs,ho,hc,hx,hd,h1⟩,⟨oT,ts,hT,CU,h3⟩,ne⟩:=F;have hs:=(Array.getElem?_eq_some_iff.mp h1).1;unfold noteFrame;simp only[hf];refine wX (wpAny_field ho hd h1 ?_);rw[if_pos (show(Value.ref T != Value.none)=true from by simp)];refine wX (wpAny_field hT CU h3 ?_);rw[if_neg (show ¬((Value.none == rawInt L)=true)from by simp[rawInt])];refine wX (wpAny_setField hT CU (Array.getElem?_eq_some_iff.mp h3).1 ?_);have kp:Kp (L::outer.filterMap (·.frame)) [T] s.heap (s.heap.update T (Obj.mapFields (·.setIfInBounds 3 Value.none))):=Kp.other _ _;have sR:(s.heap.update T (Obj.mapFields (·.setIfInBounds 3 Value.none))).FunFrames base (env::outer):=hl.of_keeps λb o' hb hn=>by
  obtain⟨_,sl,z⟩:=kp b o' hb λz=>by rw[uT z,hT]at hb;cases hb;exact hn ts CU
  exact⟨_,z,rfl⟩
 refine wA qd sR hf ((Heap.get?_update_other _ _ ne).trans ho) hd hs λh' T' oT' ts' a1 a2 a3 a4 a5 a6=>?_;have fT:s.heap.objs.size<=T':=vR (Nat.le_of_eq (Heap.size_update s.heap T _).symm) a2;refine h h' T' ⟨⟨_,_,a1,hc,hx,rfl,by rw[Array.getElem?_setIfInBounds_self_of_lt hs]⟩,⟨_,_,a3,a4,a5⟩,λz=>absurd (vX ho) (by rw[←z];exact Nat.not_lt.mpr fT)⟩ fT ?_;exact(kp.more λb _ _ z=>mZ _ z).trans (a6.more λb _ _ z=>by rw[uT z];exact mX)
end
end EX
namespace EX
open PySem PySem.Spec PyProof.Rows L2
open PySem.W (Frag findIn mroIn keepIn isFn)
noncomputable def yU (C t0:Addr)(d:Option Addr):Obj:={ cls:=.ref C,dict:=d,data:=.fields #[.ref t0,.none,.none,.none,.bool false,.none] }
noncomputable def XN (e C t0:Addr)(d:Option Addr):HO:=.ext λh=>h.get? e=some (yU C t0 d)
noncomputable def XO (e C:Addr)(d:Option Addr):HO:=.ext λh=>∃o vs,h.get? e=some o/\o.cls=.ref C/\o.dict=d/\o.data=.fields vs
theorem Au {P:Program}{w:World}{H:Hp}{h:Heap}{e C t0:Addr}{d:Option Addr}(x:h.get? e=some (yU C t0 d)):bC P w H h e (XN e C t0 d):=⟨x,⟨_,x⟩,λ_ _ p k=>k _ p⟩
theorem wB {P:Program}{w:World}{H:Hp}{h:Heap}{e C t0:Addr}{d:Option Addr}(x:bC P w H h e (XN e C t0 d)):h.get? e=some (yU C t0 d):=And.left x
theorem Ee {P:Program}{w:World}{H:Hp}{h:Heap}{e C:Addr}{d:Option Addr}(x:∃o vs,h.get? e=some o/\o.cls=.ref C/\o.dict=d/\o.data=.fields vs):bC P w H h e (XO e C d) :=
 ⟨x,let ⟨o,_,q,_⟩:=x;⟨o,q⟩,λ_ _ ⟨o,vs,q,r⟩ k=>⟨o,vs,k _ q,r⟩⟩
theorem Av {P:Program}{w:World}{H:Hp}{h:Heap}{e C:Addr}{d:Option Addr}(x:bC P w H h e (XO e C d)):∃o vs,h.get? e=some o/\o.cls=.ref C/\o.dict=d/\o.data=.fields vs:=And.left x
structure Ec (K:Frag)(C:Addr):Prop where
 ob:∃nm q N bs bm sn sub ab col dd k0 k1 k2 k3 k5,K.lookup C=some (excClassObj nm q C N bs bm true sn sub ab col dd k0 k1 k2 k3 k5 "ValueError.__new__")/\Ups "ValueError" bm/\∀self:Value,refuseLoop self "__setattr__" bm=pure ()
 kp:keepIn K (.ref C)=true
 st:findIn K (.ref C) "__setattr__" = some (some (.builtin "object.__setattr__"))
 bo:mroIn K C (.type "object")=some true
section
variable {X:Cx}{C fI:Addr}{ac:List (Addr×Obj)}{σ:L2.St}{H:Hp}{s:Shared}
theorem yV {A:Around}{E:Value->Shared->Prop}{e t0:Addr}{name:Str}{v:V}{u:Value}{Q:Unit->Shared->Prop}(c:Ec X.K C)(xG:findIn X.K (.ref C) name=some none)(I:Inv X ac σ H s)(he:H e=some (XN e C t0 none))(rv:aI v u)
  (h:∀s',Inv X ac σ (upd (upd H s.heap.objs.size (.xd [(name,v)])) e (XN e C t0 (some s.heap.objs.size))) s'->Q () s'):wpAny (model X.prog X.w) A (setAttr (.ref e) name u) Q E s:=by
 obtain⟨nm,q,N,bs,bm,sn,sub,ab,col,dd,k0,k1,k2,k3,k5,hC,_,hp⟩:=c.ob;have xe:=wB (I.hok e _ he);obtain⟨hh,g,d,t,os⟩:=s;refine yR (o:=yU C t0 none) I.kIn hp c.bo (I.kIn _ _ hC) c.st xG xe rfl (λ_ z=>nomatch z) rfl λh' zM a1 a2 a3=>h _ ?_;have fG:e<hh.objs.size:=vX xe;have M6:hh.objs.size≠e:=Nat.ne_of_gt fG;have hf:H hh.objs.size=none:=I.hok.fresh (vT _);refine I.step (g':=g) (d':=d) (t':=zM) (ch:=[]) (λ_ z=>nomatch z) (λb o _ _ _ q n=>a3 b o (λz=>by rw[z,he]at n;cases n) q) (λb o _ _ _ q n=>⟨o.slots,a3 b o (λz=>by rw[z,he]at n;cases n) q⟩) (λb o _ q n=>?_) (λb o _ q=>?_) (λb xs q=>?_) (λb o' u' q=>?_) (λb q' q=>?_) (λm hm=>?_) ?_ I.bare
 ·rw[au (λz=>by rw[z,he]at n;cases n),au (vS (vX q))];exact n
 ·by_cases z:b=e
  ·rw[z];exact⟨_,a1⟩
  ·exact⟨o,a3 b o z q⟩
 ·rw[au (λz=>by rw[z,he]at q;cases q),au (aP q hf)];exact q
 ·rw[au (λz=>by rw[z,he]at q;cases q),au (aP q hf)];exact q
 ·rw[au (λz=>by rw[z,he]at q;cases q),au (aP q hf)];exact q
 ·obtain⟨o,es,ep,ho,r⟩:=hm;exact⟨o,es,ep,a3 _ o (λz=>by have:=I.free;rw[z,he]at this;cases this) ho,r⟩
 ·intro b u' q;by_cases z:b=e
  ·subst z;rw[aw]at q;cases q;exact Au a1
  ·rw[au z]at q;by_cases z2:b=hh.objs.size
   ·subst z2;rw[aw]at q;cases q;refine⟨_,a2,λf=>?_⟩;by_cases z3:f=name
    ·subst z3;simp[lF,rv]
    ·have:(name,v).1≠f:=λy=>z3 y.symm;simp[List.lookup,z3,lF,beq_eq_false_iff_ne.mpr z3]
   ·rw[au z2]at q;have JR:∀c:Addr,H c=some (.own b)->c≠e:=λc r z=>by rw[z,he]at r;cases r
    refine(I.hok b u' q).stay (λc v' hc r=>a3 c v' ?_ r) (λc r=>?_) (λc xs r=>?_) λc o xs r=>?_
    ·rcases hc with rfl|hc
     ·exact z
     ·exact JR c hc
    ·rw[au (JR c r),au (aP r hf)];exact r
    ·rw[au (λz=>by rw[z,he]at r;cases r),au (aP r hf)];exact r
    ·rw[au (λz=>by rw[z,he]at r;cases r),au (aP r hf)];exact r
end
open PySem.W (Frag findIn mroIn keepIn isFn)
section
variable {X:Cx}{C fI:Addr}{ac:List (Addr×Obj)}{σ:L2.St}{H:Hp}{s:Shared}
theorem jZ {e:Addr}{φ:Heap->Prop}{u:HO}{Ts:List Addr}{h':Heap}(I:Inv X ac σ H s)(he:H e=some (.ext φ))(k:Kp (lC X.stack) (e::Ts) s.heap h')
  (hT:∀b∈Ts,H b=none/\X.s₀.heap.objs.size<=b/\b≠X.env.locals/\(∀x c,X.env.cells.lookup x=some c->c≠b)/\∀p∈X.pn++ac,p.1≠b) (new:bC X.prog X.w (upd H e u) h' e u):
  Inv X ac σ (upd H e u) { s with heap:=h' }:=by
 have ne:∀b,H b=none->b≠e:=λb n z=>by rw[z,he]at n;cases n
 have Cv:∀b v,H b=some v->(∀ψ,v≠.ext ψ)->b≠e:=λb v q n z=>by rw[z,he]at q;cases q;exact n _ rfl
 have nc:∀b,b≠e->b∉Ts->b∉e::Ts:=λb h1 h2 z=>(vP z).elim h1 h2;have nf:∀b,b≠X.env.locals->b∉X.fs->b∉lC X.stack:=λb h1 h2 z=>(vP (I.stkSub b z)).elim h1 h2;have LZ:∃o,h'.get? e=some o:=by
  cases q:h'.get? e with
  |some o=>exact⟨o,rfl⟩
  |none=>
   exfalso;have:=new.lt;cases u with
   |ext ψ=>obtain⟨_,⟨o,z⟩,_⟩:=new;rw[q]at z;cases z
   |lst xs=>obtain⟨_,_,_,_,z⟩:=new;rw[q]at z;cases z
   |tup xs=>obtain⟨_,_,_,_,z,_⟩:=new;rw[q]at z;cases z
   |dK b8 ob=>have z:=And.left new;rw[q]at z;cases z
   |dT b8=>obtain⟨_,_,_,_,o,_,_,z,_⟩:=new;rw[q]at z;cases z
   |set S n=>obtain⟨o,_,_,_,z,_⟩:=new;rw[q]at z;cases z
   |ins C dx fs=>obtain⟨_,_,_,z,_⟩:=new;rw[q]at z;cases z
   |own y=>obtain⟨_,z⟩:=new;rw[q]at z;cases z
   |xd fs=>obtain⟨_,⟨_,_,_,z,_⟩,_⟩:=new;rw[q]at z;cases z
   |rng lo hi=>obtain⟨_,_,_,z⟩:=new;rw[q]at z;cases z
   |frz ob u=>obtain⟨z,_⟩:=new;rw[q]at z;cases z
   |tbl qq=>obtain⟨_,z,_⟩:=new;rw[q]at z;cases z
   |met f y=>have z:h'.get? e=some _:=new;rw[q]at z;cases z
 refine I.step (g':=s.gens) (d':=s.drawn) (t':=s.toks) (ch:=Ts) (λb hb=>let ⟨_,a2,a3,a4,a5⟩:=hT b hb;⟨.inr a2,a3,a4,a5⟩) (λb o hL hb hc q n=>(k b o q (nc b (ne b n) hc)).1 (nf b hL hb)) (λb o _ _ hc q n=>(k b o q (nc b (ne b n) hc)).2) (λb o _ q n=>by rw[au (ne b n)];exact n) (λb o hc q=>?_)
  (λb xs q=>by rw[au (Cv b _ q λ_ z=>nomatch z)];exact q) (λb o' u' q=>by rw[au (Cv b _ q λ_ z=>nomatch z)];exact q) (λb q' q=>by rw[au (Cv b _ q λ_ z=>nomatch z)];exact q) (λm hm=>?_) (λb v q=>?_) I.bare
 ·by_cases z:b=e
  ·rw[z];exact LZ
  ·obtain⟨sl,y⟩:=(k b o q (nc b z hc)).2;exact⟨_,y⟩
 ·obtain⟨o,es,ep,ho,r⟩:=hm;obtain⟨sl,y⟩:=(k _ o ho (nc _ (ne _ I.free) λz=>(hT _ z).2.2.1 rfl)).2;exact⟨_,es,ep,y,r⟩
 ·by_cases z:b=e
  ·subst z;rw[aw]at q;cases q;exact new
  ·rw[au z]at q;have kb:∀c v',H c=some v'->c≠e->∀o,s.heap.get? c=some o->h'.get? c=some o:=λc v' r1 r2 o r3=>
    (k c o r3 (nc c r2 λy=>by have:=(hT c y).1;rw[r1]at this;cases this)).1 λy=>by have:=I.stkFree c y;rw[r1]at this;cases this
   refine(I.hok b v q).stay (λc v' hc r=>?_) (λc r=>by rw[au (Cv c _ r λ_ z=>nomatch z)];exact r) (λc xs r=>by rw[au (Cv c _ r λ_ z=>nomatch z)];exact r) λc o xs r=>by rw[au (Cv c _ r λ_ z=>nomatch z)];exact r
   rcases hc with rfl|hc
   ·exact kb c v q z v' r
   ·exact kb c _ hc (Cv c _ hc λ_ z=>nomatch z) v' r
def sw (P:Program)(w:World):xH:=λouter H s E ev s'=>∃e C dx T H',ev=.ref e/\s'.os=s.os/\AllBare s'.gens/\Un (lC outer) [] H H' s.heap s'.heap/\j0 P w H' s'.heap /\
 u7 s'.heap e T (.ref C) (some dx) .none/\H' e=some (XO e C (some dx))/\H' T=none/\s.heap.objs.size<=T/\s.heap.objs.size<=e/\E (.ref C) (some dx) H'
theorem u7.xo {P:Program}{w:World}{h:Heap}{e T C:Addr}{d:Option Addr}{fl:Value}(F:u7 h e T (.ref C) d fl):bC P w H h e (XO e C d) :=
 let ⟨o,vs,a,b,c,d,_⟩:=F.ob;Ee ⟨o,vs,a,b,c,d⟩
theorem Ef {P:Program}{w:World}{K:Frag}{mg:Str->Option Value}{base:Heap}{N:List Str}{qual:Str}{scope:Scope}{f:Addr}{cd:Value}{A:Around}{outer:List Env}{s₀:Shared}{H₀:Hp}{E:XK}{e t0 dx:Addr}
  (I:Inv (eB (sw P w) P w K mg base N qual scope f cd A outer s₀ H₀ E) ac σ H s) (he:H e=some (XN e C t0 (some dx))) (hs:s₀.heap.objs.size<=e) (hE:E (.ref C) (some dx) (upd H e (XO e C (some dx)))):
  (eB (sw P w) P w K mg base N qual scope f cd A outer s₀ H₀ E).xe (.ref e) s:=by
 have xe:=wB (I.hok e _ he);show wpAny _ _ (leaving _ (.ref e)) _ _ s;unfold leaving;refine wX (qU (base:=base) (L:=s₀.heap.objs.size) (dx:=some dx) I.ok.frames I.stack rfl xe rfl rfl rfl λh1 T F1 hT K1=>?_);refine u7.land (s:={ s with heap:=h1 }) (fr:=s₀.heap.objs.size::lC outer) F1 λh2 F2 K2=>?_;have kk:Kp (lC (eB (sw P w) P w K mg base N qual scope f cd A outer s₀ H₀ E).stack) (e::[]) s.heap h2:=by
  have e1:lC (eB (sw P w) P w K mg base N qual scope f cd A outer s₀ H₀ E).stack=s₀.heap.objs.size::outer.filterMap (·.frame):=rfl;rw[e1];refine((K1.more (ch':=[e,T]) λb _ _ z=>by rw[uT z];exact mX).trans (K2.more λb _ _ z=>mZ _ z)).more λb o q z=>?_;rcases vP z with z|z
  ·rw[z];exact mX
  ·rw[uT z]at q;exact absurd (vX q) (Nat.not_lt.mpr hT)
 have J:=jZ (u:=XO e C (some dx)) (h':=h2) I he kk (λ_ z=>nomatch z) F2.xo;have fG:=vX xe;exact⟨e,C,dx,T,_,rfl,J.os,J.bare,J.base,J.hok,F2,aw,by rw[au (Nat.ne_of_gt (vQ fG hT))];exact I.hok.fresh hT,vR I.sz hT,hs,hE⟩
end
open PySem.W (Frag findIn mroIn keepIn isFn)
def fQ (H:Hp)(e C t0 dx:Addr)(name:Str)(v:V):Hp:=upd (upd (upd H e (XN e C t0 none)) dx (.xd [(name,v)])) e (XN e C t0 (some dx))
theorem wC {H:Hp}{e C t0 dx:Addr}{name:Str}{v:V}:fQ H e C t0 dx name v e=some (XN e C t0 (some dx)):=aw
theorem BK {H:Hp}{e C t0 dx:Addr}{name:Str}{v:V}(n:dx≠e):fQ H e C t0 dx name v dx=some (.xd [(name,v)]):=by unfold fQ;rw[au n,aw]
theorem BL {H:Hp}{e C t0 dx b:Addr}{name:Str}{v:V}(n:b≠e)(m:b≠dx):fQ H e C t0 dx name v b=H b:=by unfold fQ;rw[au n,au m,au n]
def CC (C:Addr)(name:Str):Sp:=λvs H Q _=>∃e t0 v,vs=[.ref e,v]/\H e=some (XN e C t0 none)/\∀dx,H dx=none->Q .non (upd (upd H dx (.xd [(name,v)])) e (XN e C t0 (some dx)))
section
variable {X:Cx}{C fI:Addr}{ac:List (Addr×Obj)}{σ:L2.St}{H:Hp}{s:Shared}{o value a:Expr}{name x:Str}{pos lR p cW:Pos}{ta tv:TE}
def Eg (C:Addr)(ta tv:TE)(name:Str):TS:=λD σ H=>tv σ H λy H1=>ta σ H1 λx H2=>∃e t0,x=.ref e/\H2 e=some (XN e C t0 none)/\∀dx,H2 dx=none->D.nx σ (upd (upd H2 dx (.xd [(name,y)])) e (XN e C t0 (some dx)))
theorem BM (c:Ec X.K C)(xG:findIn X.K (.ref C) name=some none)(ha:PE X o ta)(hv:PE X value tv)(hs:swapsWith value (some (.Attribute o name lR)) pos.line X.env=pure false):PS X (.Assign [.Attribute o name lR] value pos) (Eg C ta tv name):=by
 intro ac s σ H D I h;refine plainObj_wpAny_Assign_Attribute (bX (hv ac s σ H _ I h) λu s1 ⟨y,H1,I1,ry,q⟩=>bX (ha ac s1 σ H1 _ I1 q) λov s2 ⟨x,H2,I2,rx,e,t0,ex,ea,q2⟩=>?_) hs;subst ex;obtain rfl:ov=Value.ref e:=rx;exact yV c xG I2 ea ry λs3 I3=>⟨σ,_,I3,q2 _ (I2.hok.fresh (vT _))⟩
theorem yW {k:Nat}{fd:FuncData}{ps:List Str}{Q:VK}{v:V}{u:Value}(c:Ec X.K C)(hi:findIn X.K (.ref C) "__init__" = some (some (.ref fI)))(z0:isFn X.K (.ref fI)=true)
  (F:eZ X.prog X.w X.K X.mg X.base ko k fI fd ps (CC C name)) (hr:cD (k+1) X.A) (hb:eA X.K fd ps []) (I:Inv X ac σ H s) (r:aI v u)
  (h:∀e dx t0,s.heap.objs.size<=e->H e=none->H dx=none->dx≠e->Q (.ref e) (fQ H e C t0 dx name v)):wq X (call (.ref C) [u]) (EP X ac σ Q) X.xe s:=by
 obtain⟨nm,q,N,bs,bm,sn,sub,ab,col,dd,k0,k1,k2,k3,k5,hC,U,hp⟩:=c.ob;obtain⟨hh,g,d,t,os⟩:=s;obtain⟨oI,Ma,Mb⟩:∃oI,X.K.lookup fI=some oI/\oI.cls=.type "function":=by
  have z:=beq_iff_eq.mp z0;unfold PySem.W.typeIn at z;cases q:X.K.lookup fI with
  |none=>simp[q]at z
  |some o=>simp[q]at z;exact⟨o,rfl,z⟩
 refine w5 I.kIn PySem.F.excBase_ValueError U (I.kIn _ _ hC) hi (I.kIn _ _ Ma) Mb λh' e hm hs=>?_;obtain⟨t0,he,_,_⟩:=hm.there;have I2:Inv X ac σ (upd H e (XN e C t0 none)) { (⟨hh,g,d,t,os⟩:Shared)with heap:=h',toks:=t }:=I.laid hm.keeps hs (Au he);have r2:aT [V.ref e,v] [Value.ref e,u]:=.cons rfl (.cons r .nil);have hl:([Value.ref e,u]++[]).length=ps.length:=(F.len [.ref e,v] (upd H e (XN e C t0 none)) (λ_ _=>True) (λ_ _ _=>True) ⟨e,t0,v,rfl,aw,λ_ _=>trivial⟩);have xO:H e=none:=I.hok.fresh hs;have hq:CC C name [.ref e,v] (upd H e (XN e C t0 none)) (λw H2=>w=.non/\Q (.ref e) H2) (λ_ _ _=>False) :=
  ⟨e,t0,v,rfl,aw,λdx hx=>⟨rfl,by
   have nd:dx≠e:=λz=>by rw[z,aw]at hx;cases hx
   rw[au nd]at hx;exact h e dx t0 hs xO hx nd⟩⟩
 refine wpAny_call (codeAny_mono (F.run _ X.stack _ _ ⟨[Value.ref e,u],[]⟩ [Value.ref e,u] _ _ _ (hr.make C [u] []) (I2.env0.make C [u] []) (by have:=hb { (⟨hh,g,d,t,os⟩:Shared)with heap:=h',toks:=t } [Value.ref e,u] I2.kIn hl;rwa [uQ]at this) r2 hq) λr s' hq'=>?_);cases r with
 |error e=>exact False.elim hq'
 |ok fl=>
  cases fl with
  |ret u=>
   obtain⟨w,H',I3,rv,ev,q3⟩:=I2.after hq';subst ev;exact⟨rv,⟨V.ref e,H',I3,rfl,q3⟩⟩
  |next=>exact False.elim hq'
  |brk=>exact False.elim hq'
  |cont=>exact False.elim hq'
def BN (ta:TE)(R:V->Hp->Prop):TS:=λ_ σ H=>kl ta tm σ H λvs H1=>∃v,vs=[v]/\R v H1
theorem wD {k:Nat}{fd:FuncData}{ps:List Str}{R:V->Hp->Prop}(c:Ec X.K C)(hi:findIn X.K (.ref C) "__init__" = some (some (.ref fI)))(z0:isFn X.K (.ref fI)=true)
  (F:eZ X.prog X.w X.K X.mg X.base ko k fI fd ps (CC C name)) (hr:cD (k+1) X.A) (hb:eA X.K fd ps []) (hg:Gl X x) (hm:X.mg x=some (.ref C)) (ha:PE X a ta)
  (Ig:∀ac s σ H e t0 dx v H0,Inv X ac σ H s->H=fQ H0 e C t0 dx name v->X.s₀.heap.objs.size<=e->H0 e=none->H0 dx=none->dx≠e->R v H0->X.xe (.ref e) s)
  (lx:(x == ("__debug__" : Str))=false:=by decide) (he:starEach [a] X.env=(false,eval a X.env)::starEach [] X.env:=by rfl):
  PS X (.Raise (some (.Call (.Name x p) [a] [] cW)) none pos) (BN ta R):=by
 intro ac s σ H D I h;obtain⟨nm,q,N,bs,bm,sn,sub,ab,col,dd,k0,k1,k2,k3,k5,hC,U,hp⟩:=c.ob;rw[arm_exec_Raise];refine wX (wpAny_standAt ?_);refine qT (C:=C) (nm:=nm) (q:=q) (N:=N) (bs:=bs) (hdct:=true) (sn:=sn) (sub:=sub) (ab:=ab) (col:=col) (dd:=dd) (k0:=k0) (k1:=k1) (k2:=k2) (k3:=k3) (k5:=k5) (newId:="ValueError.__new__") U hr.hd (wX ?_);refine wpAny_Call_Name_kw (iE I hg hm ?_ lx);have EW:PA X [a] (kl ta tm):=bI ha cS he;refine PySem.W.callWith_K (h₀:=X.base) I.ok.mod.kin c.kp (bX (EW cW ac s σ H (λvs H1=>∃v,vs=[v]/\R v H1) I ?_) λus s1 ⟨vs,H1,I1,r,v,ev,q⟩=>⟨I1.kIn,?_⟩) he rfl
 ·exact h
 ·subst ev;obtain⟨u1,rfl,r1⟩:∃u1,us=[u1]/\L2.aI v u1:=by cases r with|cons a b=>cases b with|nil=>exact⟨_,rfl,a⟩
  refine bX (yW (Q:=λw H2=>∃e dx t0,w=.ref e/\s1.heap.objs.size<=e/\H1 e=none/\H1 dx=none/\dx≠e/\H2=fQ H1 e C t0 dx name v) c hi z0 F hr hb I1 r1 λe dx t0 a1 a2 a3 a4=>⟨e,dx,t0,rfl,a1,a2,a3,a4,rfl⟩) λu s2 ⟨w,H2,I2,EA,e,dx,t0,ew,a1,a2,a3,a4,eH⟩=>?_;subst ew;obtain rfl:u=Value.ref e:=EA;refine wX (wpAny_standAt (wY ?_));have Fm:H2 e=some (XN e C t0 (some dx)):=by rw[eH];exact wC
  exact⟨e,t0,some dx,rfl,I2.kIn _ _ hC,wB (I2.hok e _ Fm),Ig ac s2 σ H2 e t0 dx v H1 I2 eH (vR I1.sz a1) a2 a3 a4 q⟩
end
open PySem.W (Frag findIn mroIn keepIn isFn)
theorem qV {H:Hp}{a:Addr}{o:HO}(h:H a=some o):upd H a o=H:=by
 funext b;unfold upd;split
 ·rename_i z;rw[z,h]
 ·rfl
section
variable {X:Cx}{C:Addr}{ac:List (Addr×Obj)}{σ:L2.St}{H:Hp}{s:Shared}
theorem wE {i:Nat}{n:Str}{m:Str->Option Value}{v:Option Value}{h':Heap}{t:Nat}(I:Inv X ac σ H s)(hN:X.N.Nodup)(hi:X.N[i]? = some n)(hk:X.env.kindOf n=some .local)
  (hm:s.heap.Ns X.env.locals m) (CJ:h'.Ns X.env.locals λx=>if x=n then v else m x) (hs:Heap.SameBut X.env.locals s.heap h'):Inv X ac (σ.set i none) H { s with heap:=h',toks:=t }:=by
 obtain⟨m0,hn,hl⟩:=I.loc;have Mc:∀x,m x=m0 x:=λx=>by
  obtain⟨o,es,ep,ho,hd,M7,e1⟩:=hm;obtain⟨o',oh,FL,og,FK,M8,e2⟩:=hn;rw[ho]at og;cases og;rw[hd]at FK;cases FK;rw[←e1,←e2]
 have CG:∀b o,X.s₀.heap.get? b=some o->b≠X.env.locals:=λb o e=>vS (vQ (vX e) I.ok.above);refine⟨I.ok,I.os,I.bare,⟨λb o e q hb hx=>?_,λb o e q hb hx=>?_,I.base.free,λb o e hx=>?_,I.base.tups,I.base.frzs,I.base.tbls⟩,⟨_,CJ,λj y v' e1 e2 e3=>?_⟩,λy c e=>?_,I.free,I.freeC,λp hp=>?_,λb u e=>?_,by simpa using I.len⟩
 ·exact(hs.2 b (CG b o e)).trans (I.base.keep b o e q hb hx)
 ·obtain⟨sl,z⟩:=I.base.slot b o e q hb hx;exact⟨sl,(hs.2 b (CG b o e)).trans z⟩
 ·obtain⟨o',z⟩:=I.base.there b o e hx;exact⟨o',(hs.2 b (CG b o e)).trans z⟩
 ·have hj:i≠j:=λz=>by
   subst z;rw[List.getElem?_set_self (by rw[I.len];exact(vV hi).1)]at e2;cases e2
  rw[vB hj]at e2;obtain⟨u,r,q⟩:=hl j y v' e1 e2 e3;refine⟨u,r,?_⟩;rcases q with⟨k,e⟩|⟨k,c,e,z⟩
  ·refine .inl ⟨k,?_⟩;have:y≠n:=λz=>hj (iD hN hi (z ▸ e1));show(if y=n then v else m y)=some u;rw[if_neg this,Mc];exact e
  ·exact .inr ⟨k,c,e,z.sameBut hs (I.cne y c e)⟩
 ·obtain⟨w',z⟩:=I.cell y c e;exact⟨w',z.sameBut hs (I.cne y c e)⟩
 ·obtain⟨e,q,ne,nf,d⟩:=I.pin p hp;exact⟨(hs.2 p.1 ne).trans e,q,ne,nf,d⟩
 ·refine(I.hok b u e).stay (λc v' hc q=>(hs.2 c ?_).trans q) (λ_ q=>q) (λ_ _ q=>q) λ_ _ _ q=>q;have hf:=I.free;rintro rfl;rcases hc with rfl|hc
  ·rw[hf]at e;cases e
  ·rw[hf]at hc;cases hc
noncomputable abbrev yX (X:Cx)(A:Around)(E:Value->Shared->Prop):Cx:={ X with A:=A,calm:=false,xe:=E }
theorem wF {A:Around}{E:Value->Shared->Prop}(I:Inv X ac σ H s)(hA:A.frames=X.A.frames):Inv (yX X A E) ac σ H s :=
 ⟨⟨I.ok.mod,I.ok.kind,I.ok.glob,I.ok.blt,I.ok.above,I.ok.inj,I.ok.has,I.ok.cab,(λz=>nomatch z),hA.trans I.ok.frames,I.ok.stk,I.ok.exf,I.ok.bs,I.ok.bsz,I.ok.noex,I.ok.exfs,I.ok.funs,I.ok.frf⟩,I.os,I.bare,I.base,I.loc,I.cell,I.free,I.freeC,I.pin,I.hok,I.len⟩
theorem wG {A:Around}{E:Value->Shared->Prop}(ok:X.Ok)(I:Inv (yX X A E) ac σ H s):Inv X ac σ H s :=
 ⟨ok,I.os,I.bare,I.base,I.loc,I.cell,I.free,I.freeC,I.pin,I.hok,I.len⟩
theorem sx {e dx:Addr}{fs:List (Str×V)}(hok:j0 X.prog X.w H s.heap)(he:H e=some (XO e C (some dx)))(hd:H dx=some (.xd fs)):∃ox od,PySem.W.InstAt s.heap e ox C (some od)/\ox.dict=some dx:=by
 obtain⟨o,vs,a1,a2,a3,a4⟩:=Av (hok e _ he);obtain⟨mA,⟨od,es,ep,b1,_⟩,_⟩:=hok dx _ hd;exact⟨o,od,⟨a1,a2,by unfold PySem.W.notCls;rw[a4],by rw[a3];exact b1⟩,a3⟩
end
open PySem.W (Frag findIn mroIn keepIn isFn)
section
variable {X:Cx}{C D:Addr}{ac:List (Addr×Obj)}{σ:L2.St}{H:Hp}{s:Shared}
theorem BO {i j:Nat}{n y cx:Str}{p1 p2 p3 p4 hp:Pos}{Dn:Ends}{s':Shared}{E:XK}{ev:Value}(jg:X.stack=X.env::X.outer)(Gj:X.env.frame=some X.env.locals)(hN:X.N.Nodup)
  (hj:X.N[j]? = some n) (hn:X.env.kindOf n=some .local) (hi:X.N[i]? = some y) (hy:X.env.kindOf y=some .local) (hg:Gl X cx) (hm:X.mg cx=some (.ref D)) (hx:PySem.W.exmOne X.K (.ref C) (.ref D)=some true)
  (I:Inv X ac σ H s) (h:sw X.prog X.w X.stack H s E ev s')
  (hE:∀c d H',E c d H'->∃dx fs,c=.ref C/\d=some dx/\H' dx=some (.xd fs)/\∀e,H' e=some (XO e C (some dx))->Dn.nx (((σ.set j (some (.ref e))).set i (some (.ref e))).set j none) H')
  (Fk:(n == ("__debug__" : Str))=false:=by decide) (AG:(n == ("__classdict__" : Str))=false:=by decide) (gq:(cx == ("__debug__" : Str))=false:=by decide)
  (xz:swapsWith (.Name n p3) (some (.Name y p2)) p4.line X.env=pure false:=by rfl):
  wq X (noteFrame ev X.env) (λ_ s₂=>wq X (setFlight ev none) (λ_ s₃=>wq X (handleBy ev X.env [.ExceptHandler (some (.Name cx p1)) (some n) [.Assign [.Name y p2] (.Name n p3) p4] hp]) (SP X ac Dn) X.xe s₃) X.xe s₂) X.xe s':=by
 obtain⟨e,C',dx,T,H',rfl,os,bare,un,hok,JU,he,hT,sT,se,q⟩:=h;obtain⟨M9,fs,c1,c2,hd,q⟩:=hE _ _ _ q;cases c1;cases c2
 have J:Inv X ac σ H' s':=I.call' (ch:=[]) os un hok bare λ_ z=>nomatch z;have JV:∀b,s.heap.objs.size<=b->X.s₀.heap.objs.size<=b/\b≠X.env.locals/\(∀x c,X.env.cells.lookup x=some c->c≠b)/\∀p∈X.pn++ac,p.1≠b:=λb hb=>
  ⟨vR I.sz hb,Nat.ne_of_gt (vQ I.lt hb),λx c e z=>by obtain⟨v,o,ho,_⟩:=I.cell x c e;exact absurd (vX ho) (by rw[z];exact Nat.not_lt.mpr hb),λp hp z=>absurd (vX (I.pin p hp).1) (by rw[z];exact Nat.not_lt.mpr hb)⟩
 have Md:lC X.stack=X.env.locals::X.outer.filterMap (·.frame):=by rw[jg];unfold lC;rw[List.filterMap_cons,Gj]
 have Me:s.heap.objs.size<=s'.heap.objs.size:=by
  rcases Nat.lt_or_ge s'.heap.objs.size s.heap.objs.size with z|z
  ·obtain⟨o,_,a,_⟩:=JU.ob;exact absurd (vX a) (Nat.not_lt.mpr (vR (Nat.le_of_lt z) se))
  ·exact z
 refine ub (base:=X.base) (outer:=X.outer) (L:=X.env.locals) (by rw[←jg];exact J.ok.frames) (by rw[←jg];exact J.stack) Gj JU λh1 T1 F1 hT1 K1=>?_;have J1:Inv X ac σ H' { s' with heap:=h1 }:=by
  have:=jZ (u:=XO e C (some dx)) (Ts:=[T]) (h':=h1) J he (by rw[Md];exact K1) (λb hb=>by rw[uT hb];exact⟨hT,JV T sT⟩) F1.xo;rwa [qV he]at this
 have Fo:H' T1=none:=hok.fresh hT1;have Fp:=JV T1 (vR Me hT1);refine u7.land (s:={ s' with heap:=h1 }) (fr:=lC X.stack) F1 λh2 F2 K2=>?_;have J2:Inv X ac σ H' { s' with heap:=h2 }:=by
  have:=jZ (u:=XO e C (some dx)) (Ts:=[T1]) (h':=h2) J1 he (K2.more λb _ _ z=>mZ _ z) (λb hb=>by rw[uT hb];exact⟨Fo,Fp⟩) F2.xo;rwa [qV he]at this
 refine wpAny_handleBy_cons (codeAny_handlers_test ?_) (λz=>nomatch z);refine iE (X:=yX X (X.A.mark (some (.ref e))) X.xe) (wF J2 rfl) hg hm ?_ gq;obtain⟨ox,od,IA,MA⟩:=sx (s:={ s' with heap:=h2 }) J2.hok he hd;refine(PySem.W.exm_one J2.kIn IA.type hx).here ?_;show codeAny _ _ _ _ _;refine codeAny_handlers_suite_as ?_;refine u7.land (s:={ s' with heap:=h2 }) (fr:=lC X.stack) F2 λh3 F3 K3=>?_;have J3:Inv X ac σ H' { s' with heap:=h3 }:=by
  have:=jZ (u:=XO e C (some dx)) (Ts:=[T1]) (h':=h3) J2 he (K3.more λb _ _ z=>mZ _ z) (λb hb=>by rw[uT hb];exact⟨Fo,Fp⟩) F3.xo;rwa [qV he]at this
 refine kg J3 hN hj (.inl hn) (show L2.aI (.ref e) (.ref e)from rfl) (λs4 J4=>?_) (.inr hn);refine wpAny_execs_cons (wpAny_mono (mQ (X:=yX X (X.A.mark (some (.ref e))) _) (i:=i) hN hi (.inl hy) (cf (i:=j) hj (.inl hn) Fk AG) xz (.inr hy) ac s4 _ H' { nx:=λσ' H2=>σ'=(σ.set j (some (.ref e))).set i (some (.ref e))/\H2=H',rt:=λ_ _=>False } (wF J4 rfl) ?_) (λf s5 h5=>?_) λ_ _ z=>z)
 ·exact⟨.ref e,List.getElem?_set_self (by rw[I.len];exact(vV hj).1),rfl,rfl⟩
 ·cases f with
  |next=>
   obtain⟨σ5,H5,J5,rfl,rfl⟩:=h5;have J5:=wG I.ok J5;refine wpAny_execs_nil ?_;obtain⟨m,JY,_⟩:=id J5.loc;refine wpAny_nameGoes_keeps hn JY (by rw[I.ok.kind];rfl) λh6 v hn6 hs6=>?_;exact⟨_,_,wE J5 hN hj hn JY hn6 hs6,q e he⟩
  |ret u=>obtain⟨_,_,_,_,_,z⟩:=h5;exact z.elim
  |brk=>obtain⟨_,_,_,z⟩:=h5;exact z.elim
  |cont=>obtain⟨_,_,_,z⟩:=h5;exact z.elim
end
end EX
namespace DL
open PySem PySem.Spec PyProof.Rows L2 EX
open PySem.W (Frag findIn mroIn keepIn isFn)
def IJ (K:Frag)(g:FS)(RT:VK):TS:=λE σ H=>mj K g { E with rt:=RT } σ H
abbrev JX (X:Cx)(RT:VK)(st:Stmt)(g:FS):Prop:=PS X st (IJ X.K g RT)
abbrev yY (X:Cx)(RT:VK)(st:List Stmt)(g:FS):Prop:=kh X st (IJ X.K g RT)
theorem yZ {K:Frag}{f:FE}{σ:L2.St}{H:Hp}{Q Q':VK}(h:tD K f σ H Q)(k:∀v H',Q v H'->Q' v H'):tD K f σ H Q' :=
 let ⟨B,ρ,d,b,s,r,e,q⟩:=h;⟨B,ρ,d,b,s,r,e,λv H' N x i f=>k v H' (q v H' N x i f)⟩
def RE (E:XK)(C:Addr)(name:Str):VK:=λv H0=>∀e dx t0,H0 e=none->H0 dx=none->dx≠e->E (.ref C) (some dx) (upd (fQ H0 e C t0 dx name v) e (XO e C (some dx)))
section
variable {X:Cx}{RT:VK}{st:Stmt}{ay a b body:List Stmt}{g h:FS}{c e bR tg:Expr}{pos p cW:Pos}{C fI:Addr}{name x:Str}
theorem wH:yY X RT [] aU:=kh.to iG λE _ _ q=>o6 (E:={ E with rt:=RT }) q
theorem nN (h1:JX X RT st g)(h2:yY X RT ay h):yY X RT (st::ay) (aD g h):=kh.to (e8 h1 h2) λE _ _ q=>rJ (E:={ E with rt:=RT }) q
theorem nO (h1:JX X RT st g):yY X RT [st] g:=dE h1
theorem Aw {fc:FT}(hc:JT X c fc)(ha:yY X RT a g)(hb:yY X RT b h):JX X RT (.If c a b pos) (di fc g h):=PS.to (lV hc ha hb) λE _ _ q=>vf (E:={ E with rt:=RT }) q
theorem BP {f:FE}{i:Nat}(hN:X.N.Nodup)(he:JE X e f)(hi:X.N[i]? = some x:=by rfl)(hx:zR X.env.scope x:=by first|exact Or.inl rfl|exact Or.inr rfl)(hs:swapsWith e (some (.Name x p)) pos.line X.env=pure false:=by rfl)
  (hf:X.fn x=true∨X.env.scope.names.lookup x=some .local:=by first|exact .inl rfl|exact .inr rfl):JX X RT (.Assign [.Name x p] e pos) (bt i f):=PS.to (mQ hN hi hx he hs hf) λE _ _ q=>nj (E:={ E with rt:=RT }) q
theorem za (hp:PassesOwn (model X.prog X.w) X.A X.env X.xe)(hc:X.calm=true)(hi:PI X tg bR (C5 X.K fi))(hg:PG X tg t)(ht:yy X.K jM t)(hb:yY X RT body g)
  (hs:∀x,foldedSetIterable bR X.env x=pure x:=by intro _;rfl):JX X RT (.For tg bR body [] pos) (fN fi jM g):=PS.to (qm hp hc hi hg hb hs) λE _ _ q=>o8 (E:={ E with rt:=RT }) ht q
theorem wI {st:Stmt}:JX X RT st jp:=λac s σ H E I q=>by
 obtain⟨_,_,_,_,_,e,_⟩:=q;cases e
theorem p0 {k:Nat}{fd:FuncData}{ps:List Str}{f:FE}{R:VK}(c:Ec X.K C)(hi:findIn X.K (.ref C) "__init__" = some (some (.ref fI)))(z0:isFn X.K (.ref fI)=true)
  (F:eZ X.prog X.w X.K X.mg X.base ko k fI fd ps (CC C name)) (hr:cD (k+1) X.A) (hb:eA X.K fd ps []) (hm:X.mg x=some (.ref C)) (ha:JE X e f)
  (Ig:∀ac s σ H e t0 dx v H0,Inv X ac σ H s->H=fQ H0 e C t0 dx name v->X.s₀.heap.objs.size<=e->H0 e=none->H0 dx=none->dx≠e->R v H0->X.xe (.ref e) s)
  (hg:Gl X x:=by rfl) (lx:(x == ("__debug__" : Str))=false:=by decide) (he:starEach [e] X.env=(false,eval e X.env)::starEach [] X.env:=by rfl):
  JX X R (.Raise (some (.Call (.Name x p) [e] [] cW)) none pos) (aX f) :=
 PS.to (wD c hi z0 F hr hb hg hm ha Ig lx he) λE _ _ q=>yZ (rK (E:={ E with rt:=R }) q) λv _ z=>⟨v,rfl,z⟩
end
def FH (K:Frag)(C:Addr)(name:Str)(f:List D->OB):Sp:=λvs H _ E=>∃(B:Hp)(ds:List D)(d:D)(b:Bool),(aO B H/\Tb K B)/\IsL K B vs ds/\f ds=some (d,b)/\Fin K B H d b (RE E C name)
@[simp] noncomputable def j9 (g:FS)(n k:Nat):List D->OB:=λds=>if ds.length=n then
 match g (ds.map (λd=>some (d,false))++List.replicate k none) with
 |some (.rt d b)=>some (d,b)
 |_=>none
 else none
section
variable {P:Program}{w:World}{K:Frag}{mg:Str->Option Value}{base:Heap}
theorem GR {x qual:Str}{st:Stmt}{f:Addr}{fd:FuncData}{N ps:List Str}{k:Nat}{g:FS}{C:Addr}{name:Str}(F:xN K x qual st f fd)(S:FnScope N ps (ar st))
  (hb:∀(bL:Value)(A:Around)(outer:List PySem.Env)(s:Shared)(H:Hp)(E:XK),cD k (A.deeper (envOfC qual (ar st) s.heap.objs.size f bL))->yY (eB (sw P w) P w K mg base N qual (ar st) f bL A outer s H E) (RE E C name) (ba st) g):
  eZ P w K mg base (sw P w) (k+1) f fd ps (FH K C name (j9 g ps.length (N.length - ps.length))):=by
 have len:∀vs H Q E,FH K C name (j9 g ps.length (N.length - ps.length)) vs H Q E->vs.length=ps.length:=λvs H Q E h=>by
  obtain⟨B,ds,d,b,sB,i,e,q⟩:=h;unfold j9 at e;split at e
  ·rename_i hl;rw[i.length];exact hl
  ·cases e
 obtain⟨oc,od,kV,doc,pm,an,bL,ct,jy,rfl,lk,gq⟩:=F.ex;refine rE lk gq S len λA outer s H vs Q E hr h=>⟨_,hb bL A outer s H E hr,?_⟩;have bS:=len vs H Q E h;obtain⟨B,ds,d,b,sB,i,e,q⟩:=h;unfold j9 at e;rw[if_pos (by rw[←i.length];exact bS)]at e;have s0:=kz (N:=N) sB.1 sB.2 i;rw[bS]at s0;split at e
 ·rename_i d' b' eg;cases e
  exact⟨B,H,_,_,⟨B,s0⟩,eg,λv H' N' x' i' f'=>q v H' N' x' i' f'⟩
 ·cases e
theorem p5 {N:List Str}{qual:Str}{scope:Scope}{f:Addr}{cd:Value}{A:Around}{outer:List PySem.Env}{s₀:Shared}{H₀:Hp}{E:XK}{C:Addr}{name:Str}:
  ∀ac s σ H e t0 dx v H0,Inv (eB (sw P w) P w K mg base N qual scope f cd A outer s₀ H₀ E) ac σ H s->H=fQ H0 e C t0 dx name v->(eB (sw P w) P w K mg base N qual scope f cd A outer s₀ H₀ E).s₀.heap.objs.size<=e->H0 e=none->H0 dx=none->dx≠e->RE E C name v H0 ->
   (eB (sw P w) P w K mg base N qual scope f cd A outer s₀ H₀ E).xe (.ref e) s:=λac s σ H e t0 dx v H0 I eH hs h1 h2 h3 q=>by
 subst eH;exact Ef I wC hs (q e dx t0 h1 h2 h3)
theorem Eh {N:List Str}{qual:Str}{scope:Scope}{f:Addr}{cd:Value}{A:Around}{outer:List PySem.Env}{s₀:Shared}{H₀:Hp}{E:XK}:PassesOwn (model P w) (A.deeper (envOfC qual scope s₀.heap.objs.size f cd)) (envOfC qual scope s₀.heap.objs.size f cd) (eB (sw P w) P w K mg base N qual scope f cd A outer s₀ H₀ E).xe:=PassesOwn.leaving
end
end DL
namespace EX
open PySem PySem.Spec PyProof.Rows L2
open PySem.W (Frag findIn mroIn keepIn isFn)
section
variable {X:Cx}{C D fa:Addr}{ac:List (Addr×Obj)}{σ:L2.St}{H:Hp}{s:Shared}
def Ej (sp:Sp)(t:TA)(C:Addr)(i j:Nat):TS:=λDn σ H=>t σ H λvs H1=>sp vs H1 (λ_ _=>False) λc d H'=>∃dx fs,c=.ref C/\d=some dx/\H' dx=some (.xd fs) /\
 ∀e,H' e=some (XO e C (some dx))->Dn.nx (((σ.set j (some (.ref e))).set i (some (.ref e))).set j none) H'
theorem wJ {k i j:Nat}{fd:FuncData}{ps:List Str}{sp:Sp}{t:TA}{a:Expr}{x n y cx:Str}{p p1 p2 p3 p4 hp cW ep pos:Pos}(F:eZ X.prog X.w X.K X.mg X.base (sw X.prog X.w) k fa fd ps sp)(hr:cD k X.A)(hg:Gl X x)(hm:X.mg x=some (.ref fa))(hk:keepIn X.K (.ref fa)=true)
  (hb:eA X.K fd ps []) (ha:PA X.nox [a] t) (jg:X.stack=X.env::X.outer) (Gj:X.env.frame=some X.env.locals) (hN:X.N.Nodup)
  (hj:X.N[j]? = some n) (hn:X.env.kindOf n=some .local) (hi:X.N[i]? = some y) (hy:X.env.kindOf y=some .local) (Mf:Gl X cx) (Mg:X.mg cx=some (.ref D)) (hx:PySem.W.exmOne X.K (.ref C) (.ref D)=some true)
  (lx:(x == ("__debug__" : Str))=false:=by decide) (he:starEach [a] X.env=(false,eval a X.env)::starEach [] X.env:=by rfl)
  (Fk:(n == ("__debug__" : Str))=false:=by decide) (AG:(n == ("__classdict__" : Str))=false:=by decide) (gq:(cx == ("__debug__" : Str))=false:=by decide)
  (xz:swapsWith (.Name n p3) (some (.Name y p2)) p4.line X.env=pure false:=by rfl) (zK:interactive X.env=false:=by rfl) (Mh:swapsWith (.Call (.Name x p) [a] [] cW) none ep.line X.env=pure false:=by rfl):
  PS X (.Try [.Expr (.Call (.Name x p) [a] [] cW) ep] [.ExceptHandler (some (.Name cx p1)) (some n) [.Assign [.Name y p2] (.Name n p3) p4] hp] [] [] pos) (Ej sp t C i j):=by
 intro ac s σ H Dn I h;refine wpAny_Try_except (wpAny_execs_cons (wpAny_Expr ?_ zK Mh));refine wpAny_Call_Name_kw (iE I hg hm ?_ lx);refine PySem.W.callWith_K (h₀:=X.base) I.ok.mod.kin hk (wpAny_mono (ha cW ac s σ H _ (I.wish _) h) (λus s1 ⟨vs,H1,I1,r,q⟩=>⟨I1.kIn,?_⟩) λ_ _ z=>False.elim z) he rfl;have I1:Inv X ac σ H1 s1:=I1.unwish;have hl:us.length=ps.length:=by rw[←r.length];exact F.len _ _ _ _ q
 refine wpAny_call (codeAny_mono (F.run X.A X.stack s1 H1 ⟨us,[]⟩ us vs _ _ hr I1.env0 (by have:=hb s1 us I1.kIn (by rw[uQ];exact hl);rwa [uQ]at this) r q) λr s' hq=>?_);cases r with
 |error e=>
  dsimp only[CR]at hq;exact BO jg Gj hN hj hn hi hy Mf Mg hx I1 hq (λc d H' z=>z) Fk AG gq xz
 |ok fl=>
  cases fl with
  |ret u=>obtain⟨_,_,_,_,_,_,_,z⟩:=hq;exact z.elim
  |next=>exact False.elim hq
  |brk=>exact False.elim hq
  |cont=>exact False.elim hq
structure Ei (K:Frag)(C:Addr):Prop where
 ga:findIn K (.ref C) "__getattribute__" = some (some (.builtin "BaseException.__getattribute__"))
 gk:findIn K (.ref C) "__getattr__" = some none
 be:mroIn K C (.type "BaseException")=some true
 hd:PySem.W.hasDictIn K C=true
 cl:findIn K (.ref C) "__class__" = some (some (.builtin "object.__class__"))
 cg:PySem.W.specialIn K (.builtin "object.__class__") "__get__" = some (some (.builtin "getset_descriptor.__get__"))
 ct:PySem.W.takesIn K (.builtin "object.__class__")=some true
 ob:mroIn K C (.type "object")=some true
def GS (K:Frag)(C:Addr):List V->Hp->VK->Prop:=λvs H Q=>∃e dx fs cv cu b,vs=[.ref e,cv]/\H e=some (XO e C (some dx))/\H dx=some (.xd fs)/\(∀u,L2.aI cv u->u=cu)/\PySem.W.kitOne K (.ref C) cu=some b/\Q (.bl b) H
theorem Ek (c:Ei X.K C):bM X (.builtin "isinstance") (GS X.K C):=by
 intro ac s σ H vs us Q I r ⟨e,dx,fs,cv,cu,b,ev,he,hd,hu,hk,q⟩;subst ev;obtain⟨u1,u2,rfl,r1,r2⟩:∃u1 u2,us=[u1,u2]/\L2.aI (.ref e) u1/\L2.aI cv u2:=by
  cases r with|cons a b=>cases b with|cons b c=>cases c with|nil=>exact⟨_,_,rfl,a,b⟩
 obtain rfl:u1=Value.ref e:=r1;obtain rfl:=hu _ r2;obtain⟨ox,od,IA,_⟩:=sx I.hok he hd;exact kia_one (w6 c.ga c.gk c.be c.hd c.cl c.cg c.ct c.ob) I.kIn ⟨ox,od,IA⟩ hk (λz=>nomatch z) λtk=>⟨.bl b,H,I.tok tk,rfl,q⟩
def Ks (C:Addr)(name:Str)(ta:TE):TE:=λσ H Q=>ta σ H λx H1=>∃e dx v,x=.ref e/\H1 e=some (XO e C (some dx))/\H1 dx=some (.xd [(name,v)])/\Q v H1
theorem sy {e:Expr}{name:Str}{pos:Pos}{ta:TE}(c:Ei X.K C)(xG:findIn X.K (.ref C) name=some none)(he:PE X e ta)(hb:attributeBase e name X.env (eval e X.env)=eval e X.env:=by rfl):PE X (.Attribute e name pos) (Ks C name ta):=by
 intro ac s σ H Q I h;refine ye hb (bX (he ac s σ H _ I h) λu s1 ⟨x,H1,I1,rx,ea,dx,v,ex,h1,h2,q⟩=>?_);subst ex;obtain rfl:u=Value.ref ea:=rx;obtain⟨o,vs,a1,a2,a3,a4⟩:=Av (I1.hok ea _ h1);obtain⟨mA,ns,AF⟩:=I1.hok dx _ h2;obtain⟨od,b1,b2⟩:=lW ns;obtain⟨u',eu,ru⟩:∃u',mA name=some u'/\L2.aI v u':=by
  have:=AF name;simp only[List.lookup,beq_self_eq_true]at this;cases q:mA name with
  |none=>rw[q]at this;exact this.elim
  |some u'=>rw[q]at this;exact⟨u',rfl,this⟩
 have IA:PySem.W.InstAt s1.heap ea o C (some od):=⟨a1,a2,by unfold PySem.W.notCls;rw[a4],by rw[a3];exact b1⟩;have hl:PySem.W.lookIn name od=some (some u'):=by rw[b2,eu]
 refine yS I1.kIn IA c.ga c.gk c.be (PySem.W.findObj_own c.hd xG rfl hl) ?_ ⟨v,H1,I1.tok _,ru,q⟩;cases v<;>first|(cases ru;rfl)|(obtain⟨_,z⟩:=ru;cases z;rfl)
end
end EX
namespace DL
open PySem PySem.Spec PyProof.Rows L2 EX
open PySem.W (Frag findIn mroIn keepIn isFn)
theorem uc {H:Hp}{e C t0 dx:Addr}{name:Str}{v:V}{u:HO}(h1:H e=none)(h2:H dx=none):aO H (upd (fQ H e C t0 dx name v) e u):=λb o q=>by
 have n1:b≠e:=λz=>by rw[z,h1]at q;cases q
 have n2:b≠dx:=λz=>by rw[z,h2]at q;cases q
 rw[au n1,BL n1 n2];exact q
theorem sA {H:Hp}{e C t0 dx:Addr}{name:Str}{v:V}{u:HO}(n:dx≠e):upd (fQ H e C t0 dx name v) e u dx=some (.xd [(name,v)]):=by rw[au n,BK n]
def IK (C:Addr)(name:Str):Sp:=λvs H Q _=>∃e dx v w,vs=[.ref e,w]/\H e=some (XO e C (some dx))/\H dx=some (.xd [(name,v)])/\((v=.non/\w=.non)∨∃k,v=.int k/\w=.int k)/\Q (.bl true) H
structure FnX (P:Program)(w:World)(K:Frag)(mg:Str->Option Value)(base:Heap)(C:Addr)(name:Str)(k:Nat)(x:Str)(f:List D->OB):Prop where
 ex:∃(ad:Addr)(fd:FuncData)(ps:List Str),eZ P w K mg base (sw P w) k ad fd ps (FH K C name f)/\mg x=some (.ref ad)/\keepIn K (.ref ad)=true/\eA K fd ps []
structure FnS (P:Program)(w:World)(K:Frag)(mg:Str->Option Value)(base:Heap)(k:Nat)(x:Str)(sp:Sp):Prop where
 ex:∃(ad:Addr)(fd:FuncData)(ps:List Str),eZ P w K mg base ko k ad fd ps sp/\mg x=some (.ref ad)/\keepIn K (.ref ad)=true/\eA K fd ps []
structure Exc (P:Program)(w:World)(K:Frag)(mg:Str->Option Value)(base:Heap)(x:Str)(C:Addr)(name:Str):Prop where
 nm:mg x=some (.ref C)
 ec:Ec K C
 ei:Ei K C
 na:findIn K (.ref C) name=some none
 init:∃fI fd ps,findIn K (.ref C) "__init__" = some (some (.ref fI))/\isFn K (.ref fI)=true/\eZ P w K mg base ko 1 fI fd ps (CC C name)/\eA K fd ps []
section
variable {P:Program}{w:World}{K:Frag}{mg:Str->Option Value}{base:Heap}
theorem dS.fqX {x:Str}{st:Stmt}{k:Nat}{C:Addr}{name:Str}{F':List D->OB}(F:dS K x st)(B:∃h,K.In h/\h.Ns mainGlobals mg)(g:FS)(N:List Str)(n:Nat)
  (hb:∀ {f:Addr}{bL:Value}{A:Around}{outer:List PySem.Env}{s:Shared}{H:Hp}{E:XK},N.Nodup->cD k (A.deeper (envOfC x (ar st) s.heap.objs.size f bL))->(A.deeper (envOfC x (ar st) s.heap.objs.size f bL)).units+40<cLine ->
   yY (eB (sw P w) P w K mg base N x (ar st) f bL A outer s H E) (RE E C name) (ba st) g)
  (S:FnScope N (N.take n) (ar st):=by refine⟨rfl,rfl,rfl,?_,rfl,?_,?_⟩<;>decide +kernel)
  (ro:∀(kV doc pm:Value)(an:Option Addr)(bL ct:Value)(us:List Value),us.length=(N.take n).length->bindArgs (fnOf x x (cz st) (ba st) (ar st) .none kV doc pm an bL ct) ⟨us,[]⟩=pure ((N.take n).zip us):=by
   exact λ_ _ _ _ _ _=>wz _ _ (by(repeat intro);rfl))
  (e:j9 g (N.take n).length (N.length - (N.take n).length)=F':=by rfl):FnX P w K mg base C name (k+1) x F':=by
 obtain⟨_,X,G⟩:=B;obtain⟨f,fd,F1,a⟩:=F;subst e;exact⟨f,fd,_,GR F1 S λbL A outer s H E hr=>hb S.nd hr (Bz hr),mg_of X G a,F1.kp,F1.binds ro⟩
theorem dS.fqS {x:Str}{st:Stmt}{k:Nat}{sp:Sp}(F:dS K x st)(B:∃h,K.In h/\h.Ns mainGlobals mg)(N:List Str)(n:Nat)(len:∀vs H Q E,sp vs H Q E->vs.length=(N.take n).length)
  (hb:∀ {f:Addr}{bL:Value}{A:Around}{outer:List PySem.Env}{s:Shared}{H:Hp}{E:XK}{vs:List V}{Q:VK},N.Nodup->cD k (A.deeper (envOfC x (ar st) s.heap.objs.size f bL))->sp vs H Q E ->
   ∃t,kh (eB ko P w K mg base N x (ar st) f bL A outer s H E) (ba st) t/\t { nx:=λ_ H'=>Q .non H',rt:=Q } (L2.cY N vs) H)
  (S:FnScope N (N.take n) (ar st):=by refine⟨rfl,rfl,rfl,?_,rfl,?_,?_⟩<;>decide +kernel)
  (ro:∀(kV doc pm:Value)(an:Option Addr)(bL ct:Value)(us:List Value),us.length=(N.take n).length->bindArgs (fnOf x x (cz st) (ba st) (ar st) .none kV doc pm an bL ct) ⟨us,[]⟩=pure ((N.take n).zip us):=by
   exact λ_ _ _ _ _ _=>wz _ _ (by(repeat intro);rfl)):FnS P w K mg base (k+1) x sp:=by
 obtain⟨_,X,G⟩:=B;obtain⟨f,fd,F1,a⟩:=F;have F2:=F1;obtain⟨oc,od,kV,doc,pm,an,bL,ct,jy,rfl,lk,gq⟩:=F2.ex;exact⟨f,_,_,rE lk gq S len λA outer s H vs Q E hr A9=>hb S.nd hr A9,mg_of X G a,F1.kp,F1.binds ro⟩
theorem FnS.fn {x:Str}{k:Nat}{f:List D->OB}(F:FnS P w K mg base k x (xK K f)):Fn P w K mg base k x f:=⟨F.ex⟩
end
section
variable {X:Cx}{C D:Addr}{x cx:Str}{p p1 p2 pos:Pos}{i:Nat}{b:Bool}
def HX (C:Addr)(name:Str)(i:Nat)(v:V)(σ:L2.St)(H:Hp):Prop:=∃e dx,σ[i]? = some (some (.ref e))/\H e=some (XO e C (some dx))/\H dx=some (.xd [(name,v)])
def Kt (C:Addr)(name:Str)(i:Nat)(b:Bool):TT:=λσ H Q=>(∃v,HX C name i v σ H)/\Q b H
theorem js {y name:Str}{u:Value}{v:V}(c:Ei X.K C)(hn:X.mg "isinstance" = none)(hi:X.N[i]? = some y)(hv:xS X.env.scope y)(hp:PE X (.Name cx p2) (tC v))(hu:∀u',L2.aI v u'->u'=u)(hk:PySem.W.kitOne X.K (.ref C) u=some b)
  (hg:Gl X "isinstance":=by rfl) (hd:(y == ("__debug__" : Str))=false:=by decide) (gq:(y == ("__classdict__" : Str))=false:=by decide)
  (he:starEach [.Name y p1,.Name cx p2] X.env=(false,eval (.Name y p1) X.env)::starEach [.Name cx p2] X.env:=by rfl) (Fm:starEach [.Name cx p2] X.env=(false,eval (.Name cx p2) X.env)::starEach [] X.env:=by rfl)
  (hpl:(backTo pos (starEach [.Name cx p2] X.env)).any (·.1)=false:=by rfl)
  (hw:∀ib,isTrue (.Call (.Name "isinstance" p) [.Name y p1,.Name cx p2] [] pos) X.env ib=(do let v ←ib;standAt (Expr.Call (.Name "isinstance" p) [.Name y p1,.Name cx p2] [] pos).pos;holding [v] (truthy v)):=by intro _;rfl):
  PT X (.Call (.Name "isinstance" p) [.Name y p1,.Name cx p2] [] pos) (Kt C name i b) :=
 PT.to (qh (fJ (Ek c) hg hn rfl (bI (cf hi hv hd gq) (bI hp cS Fm) he) (he:=he) (hpl:=hpl)) hw) λσ H Q ⟨⟨w,e,dx,h1,h2,h3⟩,q⟩=>⟨.ref e,h1,e,dx,_,v,u,b,rfl,h2,h3,hu,hk,b,rfl,q⟩
end
open PySem.W (Frag findIn mroIn keepIn isFn)
section
variable {P:Program}{w:World}{K:Frag}{mg:Str->Option Value}{base:Heap}
theorem zb {qual:Str}{st:Stmt}{f C:Addr}{fd:FuncData}{p1 p2 p3 p4:Pos}(F:xN K "__init__" qual st f fd)(c:Ec K C)(xG:findIn K (.ref C) "at" = some none)
  (hb:ba st=[.Assign [.Attribute (.Name "self" p1) "at" p2] (.Name "at" p3) p4]) (S:FnScope ["self","at"] ["self","at"] (ar st))
  (h1:(ar st).names.lookup ("self" : Str)=some .local) (h2:(ar st).names.lookup ("at" : Str)=some .local)
  (hs:∀(env:PySem.Env),swapsWith (.Name "at" p3) (some (.Attribute (.Name "self" p1) "at" p2)) p4.line env=pure false):eZ P w K mg base ko 1 f fd ["self","at"] (CC C "at"):=by
 refine F.ok (k:=0) S (λvs H Q E ⟨e,t0,v,ev,_⟩=>by rw[ev];rfl) λbL A outer s H vs Q E hr h=>⟨Eg C (om 0) (om 1) "at",?_,?_⟩
 ·rw[hb];exact dE (BM c xG (cf (i:=0) rfl (.inl h1)) (cf (i:=1) rfl (.inl h2)) (hs _))
 ·obtain⟨e,t0,v,rfl,he,q⟩:=h;exact⟨v,rfl,.ref e,rfl,e,t0,rfl,he,λdx hx=>q dx hx⟩
structure Raw (K:Frag)(x:Str)(st:Stmt)(C:Addr):Prop where
 nm:PySem.W.nsIn K mainGlobals x=some (some (.ref C))
 ec:Ec K C
 ei:Ei K C
 na:findIn K (.ref C) "at" = some none
 init:∃fI fd qual,findIn K (.ref C) "__init__" = some (some (.ref fI))/\isFn K (.ref fI)=true/\xN K "__init__" qual st fI fd
theorem Raw.exc {x:Str}{st:Stmt}{C:Addr}{p1 p2 p3 p4:Pos}(R:Raw K x st C)(B:∃h,K.In h/\h.Ns mainGlobals mg)
  (hb:ba st=[.Assign [.Attribute (.Name "self" p1) "at" p2] (.Name "at" p3) p4]:=by rfl) (S:FnScope ["self","at"] ["self","at"] (ar st):=by refine⟨rfl,rfl,rfl,?_,rfl,?_,?_⟩<;>decide +kernel)
  (h1:(ar st).names.lookup ("self" : Str)=some .local:=by rfl) (h2:(ar st).names.lookup ("at" : Str)=some .local:=by rfl)
  (hs:∀(env:PySem.Env),swapsWith (.Name "at" p3) (some (.Attribute (.Name "self" p1) "at" p2)) p4.line env=pure false:=by intro _;rfl)
  (ro:∀(qual:Str)(kV doc pm:Value)(an:Option Addr)(bL ct:Value)(us:List Value),us.length=2->bindArgs (fnOf "__init__" qual (cz st) (ba st) (ar st) .none kV doc pm an bL ct) ⟨us,[]⟩=pure ((["self","at"]:List Str).zip us):=by
   exact λ_ _ _ _ _ _ _ us hl=>match us,hl with|[_,_],_=>rfl):Exc P w K mg base x C "at":=by
 obtain⟨_,X,G⟩:=B;obtain⟨fI,fd,qual,h3,h4,F⟩:=R.init;exact⟨mg_of X G R.nm,R.ec,R.ei,R.na,fI,fd,["self","at"],h3,h4,zb F R.ec R.na hb S h1 h2 hs,F.binds (ro qual)⟩
end
section
variable {X:Cx}{dp:Pos}
@[simp] noncomputable def GU:FE:=λ_=>some (.dk [] [],false)
theorem El:JE X (.Dict [] [] dp) GU:=PE.to uY λσ H Q ⟨B,ρ,d,b,s,r,e,q⟩ p ob hp=>by
 cases e
 exact q (.ref p) _ _ (Ext.laid s hp) (.dk (ks:=[]) (vs:=[]) aw rfl .nil) (λz=>nomatch z)
def Ku (K:Frag):List V->Hp->VK->Prop:=λvs H Q=>∃x ty cv cu b,vs=[x,cv]/\TyOf K H x ty/\(∀u,L2.aI cv u->u=cu)/\PySem.W.kitOne K ty cu=some b/\Q (.bl b) H
theorem wK:bM X (.builtin "isinstance") (Ku X.K):=by
 intro ac s σ H vs us Q I r ⟨x,ty,cv,cu,b,ev,ht,hu,hk,q⟩;subst ev;obtain⟨u1,u2,rfl,r1,r2⟩:∃u1 u2,us=[u1,u2]/\L2.aI x u1/\L2.aI cv u2:=by
  cases r with|cons a b=>cases b with|cons b c=>cases c with|nil=>exact⟨_,_,rfl,a,b⟩
 obtain rfl:=hu _ r2;exact dz I r1 ht hk λtk=>⟨.bl b,H,I.tok tk,rfl,q⟩
end
open PySem.W (Frag findIn mroIn keepIn isFn)
noncomputable abbrev Kv:List Value:=[.type "ValueError",.type "Exception",.type "BaseException",.type "object"]
theorem raw_mk {K:Frag}{x nm q qual:Str}{st:Stmt}{C N S fI:Addr}{bs:List Value}{sn:List Str}{sub:List Value}{ab:Bool}{col:Option Bool}{dd:Option Addr}{k0 k1 k2 k3 k5:Option Value}{oc kV doc pm bL ct:Value}{od an:Option Addr}{jy:Array (Option Value)}
  (a0:PySem.W.nsIn K mainGlobals x=some (some (.ref C))) (a1:K.lookup C=some (excClassObj nm q C N bs (.ref S::Kv) true sn sub ab col dd k0 k1 k2 k3 k5 "ValueError.__new__")) (a2:keepIn K (.ref C)=true)
  (a3:findIn K (.ref C) "__setattr__" = some (some (.builtin "object.__setattr__"))) (a4:mroIn K C (.type "object")=some true)
  (a5:findIn K (.ref C) "__getattribute__" = some (some (.builtin "BaseException.__getattribute__"))) (a6:findIn K (.ref C) "__getattr__" = some none) (a7:mroIn K C (.type "BaseException")=some true) (a8:PySem.W.hasDictIn K C=true)
  (a9:findIn K (.ref C) "__class__" = some (some (.builtin "object.__class__"))) (b0:PySem.W.specialIn K (.builtin "object.__class__") "__get__" = some (some (.builtin "getset_descriptor.__get__"))) (b1:PySem.W.takesIn K (.builtin "object.__class__")=some true)
  (b2:findIn K (.ref C) "at" = some none) (b3:findIn K (.ref C) "__init__" = some (some (.ref fI))) (b4:isFn K (.ref fI)=true)
  (b5:K.lookup fI=some ⟨oc,od,.func (fnOf "__init__" qual (cz st) (ba st) (ar st) .none kV doc pm an bL ct),jy⟩) (b6:PySem.W.codeIn K bL qual=true) (b7:keepIn K (.ref fI)=true):Raw K x st C :=
 ⟨a0,⟨⟨_,_,_,_,_,_,_,_,_,_,_,_,_,_,_,a1,⟨rfl,rfl,rfl,rfl⟩,λself=>by rw[refuseLoop_ref];exact PySem.F.store_ValueError.passes self⟩,a2,a3,a4⟩,⟨a5,a6,a7,a8,a9,b0,b1,a4⟩,b2,fI,_,qual,b3,b4,uU b5 b6 b7⟩
section
variable {K:Frag}{C D:Addr}
theorem BQ {b:Bool}{t:Value}(c1:PySem.W.isClsIn K D=true)(c2:PySem.W.typeIn K (.ref D)=some (.type "type"))(c3:PySem.W.subIn K t (.ref D)=some b):PySem.W.kitCls K t (.ref D)=some b:=by
 have c1:(PySem.W.clsIn K D).isSome=true:=c1;show(if((PySem.W.clsIn K D).isSome && PySem.W.typeIn K (.ref D) == some (.type "type"))=true then PySem.W.subIn K t (.ref D)else none)=_;rw[c1,c2,if_pos (by simp)];exact c3
theorem p6 (c1:PySem.W.isClsIn K D=true)(c2:PySem.W.typeIn K (.ref D)=some (.type "type"))(c3:PySem.W.subIn K (.ref C) (.ref D)=some true):PySem.W.kitOne K (.ref C) (.ref D)=some true:=by
 unfold PySem.W.kitOne;split
 ·rfl
 ·exact BQ c1 c2 c3
theorem jt (c0:PySem.W.subIn K (.ref C) (.ref C)=some true)(c1:PySem.W.isClsIn K D=true)(c2:PySem.W.typeIn K (.ref D)=some (.type "type"))(c3:PySem.W.subIn K (.ref C) (.ref D)=some false):PySem.W.kitOne K (.ref C) (.ref D)=some false:=by
 unfold PySem.W.kitOne;split
 ·rename_i h;have:C=D:=Value.ref.inj (beq_iff_eq.mp h);rw[this]at c0 c3;rw[c0]at c3;cases c3
 ·exact BQ c1 c2 c3
theorem p7 (c1:PySem.W.isClsIn K D=true)(c2:PySem.W.typeIn K (.ref D)=some (.type "type"))(c3:PySem.W.subIn K (.ref C) (.ref D)=some true)(c4:PySem.W.subIn K (.ref D) (.type "BaseException")=some true):PySem.W.exmOne K (.ref C) (.ref D)=some true:=by
 unfold PySem.W.exmOne;rw[c4,if_pos (by simp)];exact BQ c1 c2 c3
theorem BR (c:PySem.W.subIn K (.ref C) (.type "ValueError")=some true):PySem.W.kitOne K (.ref C) (.type "ValueError")=some true:=by
 show(if PySem.W.kitMeta "ValueError" = true then PySem.W.subIn K (.ref C) (.type "ValueError")else none)=some true;rw[if_pos (by kernel_rfl)];exact c
end
end DL
namespace DL
open PySem L2
theorem kL (I:Nat->Env->Prop)(ds:List D)(ρ0:Env)(h0:I 0 ρ0)
  (step:∀i d ρ,ds[i]? = some d->I i ρ->∃ρ1 ρ',tg d ρ=some ρ1/\(g ρ1=some (.nx ρ')∨g ρ1=some (.ct ρ'))/\I (i+1) ρ'):
  ∃ρ',ge tg g ds ρ0=some (.nx ρ')/\I ds.length ρ':=by
 have key:∀(es:List D)(i:Nat)(ρ:Env),ds.drop i=es->i+es.length=ds.length->I i ρ->∃ρ',ge tg g es ρ=some (.nx ρ')/\I ds.length ρ':=by
  intro es;induction es with
  |nil=>intro i ρ e hl h;refine⟨ρ,by rw[vi],?_⟩;rw[←hl];exact h
  |cons d es ih=>
   intro i ρ e hl h;have hd:ds[i]? = some d:=by
    have:(ds.drop i)[0]? = some d:=by rw[e];rfl
    rwa [List.getElem?_drop,Nat.add_zero]at this
   obtain⟨ρ1,ρ',h1,h2,h3⟩:=step i d ρ hd h;have he:ds.drop (i+1)=es:=by rw[←List.drop_drop,e];rfl
   obtain⟨ρ2,k1,k2⟩:=ih (i+1) ρ' he (by simp at hl;omega) h3;refine⟨ρ2,?_,k2⟩;rw[jl,h1];rcases h2 with h2|h2<;>simp only[vI,h2]<;>exact k1
 exact key ds 0 ρ0 (by simp) (by simp) h0
theorem p8 (n:Nat)(I:Nat->Env->Prop)(ρ0:Env)(h0:I 0 ρ0)
  (step:∀(i:Nat) ρ,i<n->I i ρ->∃ρ1 ρ',tg (.int (i:Int)) ρ=some ρ1/\(g ρ1=some (.nx ρ')∨g ρ1=some (.ct ρ'))/\I (i+1) ρ'):
  ∃ρ',ge tg g (bA 0 n) ρ0=some (.nx ρ')/\I n ρ':=by
 have hl:(bA 0 n).length=n:=by simp[bA]
 obtain⟨ρ',h1,h2⟩:=kL (tg:=tg) (g:=g) I (bA 0 n) ρ0 h0 λi d ρ hd h=>by
  unfold bA at hd;rw[vA]at hd;obtain⟨k,hk,hd⟩:=oY hd;obtain⟨fG,hk⟩:=vV hk;rw[List.length_range]at fG;rw[List.getElem_range]at hk;subst hk;rw[Int.zero_add]at hd;subst hd;exact step i ρ fG h
 rw[hl]at h2;exact⟨ρ',h1,h2⟩
theorem eN {α:Type}{xs:List α}{j:Nat}(h:j<xs.length):md xs (j:Int)=some xs[j]:=ym (by simp[h])
theorem sC {α:Type}{xs:List α}{i:Int}(h0:0<=i)(h:i.toNat<xs.length):md xs i=some xs[i.toNat]:=by
 have:=eN h;rwa [Int.toNat_of_nonneg h0]at this
@[simp] theorem Ax (xs:List Int):bi (xs.map D.int)=true:=by
 induction xs with
 |nil=>simp
 |cons x xs ih=>simp[ih]
@[simp] theorem xL (n:Nat)(xs:List Int):(xs.map D.int).all (aM n)=true:=by
 induction xs with
 |nil=>simp
 |cons x xs ih=>simpa using ih
@[simp] theorem zc (xs:List Int):(xs.map D.int).all eJ=true:=by
 induction xs with
 |nil=>simp
 |cons x xs ih=>simpa using ih
mutual
def iU:D->D->Bool
 |.non,.non=>true
 |.bl a,.bl b=>a == b
 |.int a,.int b=>decide (a=b)
 |.str a,.str b=>decide (a=b)
 |.ty a,.ty b=>decide (a=b)
 |.tup xs,.tup ys=>kM xs ys
 |.lst xs,.lst ys=>kM xs ys
 |_,_=>false
def kM:List D->List D->Bool
 |[],[]=>true
 |x::xs,y::ys=>iU x y && kM xs ys
 |_,_=>false
end
mutual
theorem sD:∀ {x y:D},iU x y=true->x=y
 |.non,.non,_=>rfl
 |.bl a,.bl b,h=>by simp[iU]at h;rw[h]
 |.int a,.int b,h=>by simp[iU]at h;rw[h]
 |.str a,.str b,h=>by simp[iU]at h;rw[h]
 |.ty a,.ty b,h=>by simp[iU]at h;rw[h]
 |.tup xs,.tup ys,h=>by rw[iU]at h;rw[kN h]
 |.lst xs,.lst ys,h=>by rw[iU]at h;rw[kN h]
theorem kN:∀ {xs ys:List D},kM xs ys=true->xs=ys
 |[],[],_=>rfl
 |x::xs,y::ys,h=>by
  rw[kM,vC]at h;rw[sD h.1,kN h.2]
end
def Ay (r:OB)(d:D)(b:Bool):Bool:=match r with
 |some (e,c)=>iU e d && c == b
 |none=>false
theorem cw (h:Ay r d b=true):r=some (d,b):=by
 unfold Ay at h;split at h
 ·rw[vC]at h;rw[sD h.1,eq_of_beq h.2]
 ·cases h
section
variable {f:FE}{c:FT}{g g' h:FS}{ρ ρ':Env}{i:Nat}{d:D}{b:Bool}{r:Option Res}{ds:List D}
theorem aF (hl:ds.length=n)(e:g (ds.map (λd=>some (d,false))++List.replicate k none)=some (.rt d b)):aZ g n k ds=some (d,b):=by
 unfold aZ;rw[if_pos hl,e]
theorem m8 (n:bw d=true):setE ρ i d b=ρ.set i (some (d,false)):=by unfold setE;rw[if_pos n]
theorem wL (n:bi ds=true):setE ρ i (.lst ds) true=ρ.set i (some (.lst ds,true)):=by
 unfold setE;rw[if_neg (by simp),if_pos ⟨rfl,by simpa using n⟩]
theorem m9 (e:f ρ=some (d,b))(k:h (setE ρ i d b)=r):aD (bt i f) h ρ=r:=by simp[e];exact k
theorem fD (e:f ρ=some (d,b))(n:bw d=true)(k:h (ρ.set i (some (d,false)))=r):aD (bt i f) h ρ=r:=m9 e (by rw[m8 n];exact k)
theorem gn (e:f ρ=some (.lst ds,true))(n:bi ds=true)(k:h (ρ.set i (some (.lst ds,true)))=r):aD (bt i f) h ρ=r:=m9 e (by rw[wL n];exact k)
theorem gI (e:g ρ=some (.nx ρ'))(k:h ρ'=r):aD g h ρ=r:=by unfold aD;rw[e];exact k
theorem GV (e:g ρ=some (.rt d b)):aD g h ρ=some (.rt d b):=by unfold aD;rw[e]
theorem p9 (e:c ρ=some true)(k:g ρ=r):di c g g' ρ=r:=by unfold di;rw[e];exact k
theorem zd (e:c ρ=some false)(k:g' ρ=r):di c g g' ρ=r:=by unfold di;rw[e];exact k
theorem cL (e:c ρ=some true)(k:g ρ=some (.rt d b)):aD (di c g g') h ρ=some (.rt d b):=GV (p9 e k)
theorem aH (e:c ρ=some false)(k:h ρ=r):aD (di c g aU) h ρ=r:=gI (zd e rfl) k
theorem aR (e:f ρ=some (d,b)):aX f ρ=some (.rt d b):=by simp[e]
theorem nP (e:ρ[i]? = some (some (d,b)))(hb:Af d=false:=by rfl):j5 i ρ=some (.rt d b):=by simp only[j5,e,hb];simp
theorem wM (e:f ρ=some (d,b))(n:bw d=true):bt i f ρ=some (.nx (ρ.set i (some (d,false)))):=by
 show(f ρ).map _=_;rw[e,Option.map_some,m8 n]
theorem qW (e:ρ[i]? = some (some (.lst ds,true)))(ef:f ρ=some (d,b))(n:bw d=true)(l:ds.length<sizeLine):ni i f ρ=some (.nx (ρ.set i (some (.lst (ds++[d]),true)))):=by
 simp[e,ef,n,l]
theorem kO (e:fi ρ=some ds)(k:ge tg g ds ρ=some (.nx ρ')):fN fi tg g ρ=some (.nx ρ'):=by unfold fN;rw[e];exact k
theorem ze (e:fi (mW ρ)=some ds)(k:ge tg g ds ρ=some (.nx ρ')):t7 fi tg g ρ=some (.nx ρ'):=by unfold t7;rw[e];exact k
theorem db {f:FE}{j:Nat}(e:f ρ=some (.int j,b))(hj:j<=1000):bB f ρ=some (bA 0 j):=by
 unfold bB;rw[e];simp only[];rw[if_pos (by omega)];simp
theorem aN (e:f ρ=some (.bl x,b)):bD f ρ=some x:=by unfold bD;rw[e]
theorem ai (e:fa ρ=some ds)(k:F ds=x):fA F fa ρ=x:=by unfold fA;rw[e,vI];exact k
theorem kP {f1 g1:D->D->OB}{fa fb fc:FE}{x y z:D}{b1 b2 b3 b4 p q:Bool}(ea:fa ρ=some (x,b1))(eb:fb ρ=some (y,b2))(ec:fc ρ=some (z,b3))(e1:f1 x y=some (.bl p,b4))(e2:p=true->g1 y z=some (.bl q,false)):eG f1 g1 fa fb fc ρ=some (.bl (p && q),false):=by
 unfold eG;rw[ea,eb,ec];simp only[vI,e1];cases p
 ·rfl
 ·exact e2 rfl
theorem kQ {f1 f2:FE}{p q b1:Bool}(e1:f1 ρ=some (.bl p,b1))(e2:p=true->f2 ρ=some (.bl q,false)):jO f1 f2 ρ=some (.bl (p && q),false):=by
 unfold jO;rw[e1];cases p
 ·rfl
 ·exact e2 rfl
theorem Az {f1 f2:FE}{p q b1:Bool}(e1:f1 ρ=some (.bl p,b1))(e2:p=false->f2 ρ=some (.bl q,false)):Bt f1 f2 ρ=some (.bl (p || q),false):=by
 unfold Bt;rw[e1];cases p
 ·exact e2 rfl
 ·rfl
theorem zf {f1:FE}{p b1:Bool}(e1:f1 ρ=some (.bl p,b1)):vj f1 ρ=some (.bl (!p),false):=by
 unfold vj;rw[e1]
theorem aq (e1:f ρ=some (d,b))(e2:fr ρ=some xs):aa f fr ρ=some (d::xs):=by
 unfold aa;rw[e1,vI,e2,vI]
theorem aS (e1:fa ρ=some (x,b1))(e2:fb ρ=some (y,b2))(e3:op x y=z):f2 op fa fb ρ=z:=by
 unfold f2;rw[e1,vI,e2,vI];exact e3
theorem iV (e1:c1 ρ=some p)(e2:p=true->c2 ρ=some q):dQ c1 c2 ρ=some (p && q):=by
 unfold dQ;rw[e1];cases p
 ·rfl
 ·exact e2 rfl
theorem cM (e1:c1 ρ=some p)(e2:p=false->c2 ρ=some q):dO c1 c2 ρ=some (p || q):=by
 unfold dO;rw[e1];cases p
 ·exact e2 rfl
 ·rfl
theorem dY (e1:c1 ρ=some p):cZ c1 ρ=some (!p):=by
 unfold cZ;rw[e1];rfl
end
theorem zg (a c:Nat):decide ([a]<[c])=decide (a<c):=by
 congr 1;rw[List.cons_lt_cons_iff];simp
@[simp] theorem sE (a c:Nat):mm (.str ⟨#[a]⟩) (.str ⟨#[c]⟩)=some (.bl (decide (a<=c)),false):=by
 unfold mm;show some (D.bl (!decide ([c]<[a])),false)=_;rw[zg];congr 3;by_cases h:c<a
 ·rw[decide_eq_true h,decide_eq_false (by omega)];rfl
 ·rw[decide_eq_false h,decide_eq_true (by omega)];rfl
theorem gj (h:n<=100000):n<sizeLine:=Nat.lt_of_le_of_lt h (by decide)
theorem eO (h:n<=100000):n<=sizeLine:=Nat.le_of_lt (gj h)
theorem pA {α:Type}(l:List α)(g:α->D)(p:α->Bool)(h:α->D)(e:fi ρ=some (l.map g))(hl:l.length<=100000)
  (k:∀x∈l,∃ρ1,tg (g x) (fj nT cap ρ)=some ρ1/\c ρ1=some (p x)/\(p x=true->∃b,fe ρ1=some (h x,b))):bN fi nT cap tg c fe ρ=some (.lst ((l.filter p).map h),true):=by
 have key:∀l':List α,(∀x∈l',x∈l)->dR tg c fe (fj nT cap ρ) (l'.map g)=some ((l'.filter p).map h):=by
  intro l';induction l' with
  |nil=>intro _;simp
  |cons x l' ih=>
   intro hm;obtain⟨ρ1,h1,h2,h3⟩:=k x (hm x mX);have ih:=ih λy hy=>hm y (mZ _ hy);rw[List.map_cons,q8,h1,vI,h2,vI];cases hp:p x with
   |false=>simp[hp,ih]
   |true=>
    obtain⟨b,h4⟩:=h3 hp;simp[hp,ih,h4]
 unfold bN;rw[e,vI,if_pos (eO (by simpa using hl)),key l λ_ h=>h,Option.map_some]
theorem mB {α:Type}(l:List α)(g:α->D)(h:α->D)(e:fi ρ=some (l.map g))(hl:l.length<=100000)
  (k:∀x∈l,∃ρ1,tg (g x) (fj nT cap ρ)=some ρ1/\∃b,fe ρ1=some (h x,b)):bN fi nT cap tg dw fe ρ=some (.lst (l.map h),true):=by
 have:=pA (c:=dw) (fe:=fe) l g (λ_=>true) h e hl λx hx=>by
  obtain⟨ρ1,h1,h2⟩:=k x hx;exact⟨ρ1,h1,rfl,λ_=>h2⟩
 rw[List.filter_eq_self.mpr λ_ _=>rfl]at this;exact this
@[simp] theorem pB {α:Type}(f:α->Bool)(l:List α):qD (l.map λx=>.bl (f x))=some (l.map f):=by
 induction l with
 |nil=>rfl
 |cons x l ih=>simp[ih]
theorem uO (h0:0<=i)(h:i.toNat<z.cps.size)(hz:z.length<=100000):cI (.str z) (.int i)=some (.str ⟨#[z.cps.toList.getD i.toNat 0]⟩,false):=by
 have hh:i.toNat<z.cps.toList.length:=by simpa using h
 simp only[cI];rw[if_pos (eO hz),sC h0 hh];simp[List.getD,h]
theorem uM (h0:0<=i)(h:i.toNat<ds.length):cI (.tup ds) (.int i)=some (ds.getD i.toNat .non,false):=by
 simp only[cI];rw[sC h0 h];simp[List.getD,h]
theorem ud (z:Str):oS z=z.cps.toList.map λc=>.str ⟨#[c]⟩:=rfl
theorem mod_lt {x m:Int}(hm:0<m):0<=x % m/\x % m<m:=⟨Int.emod_nonneg _ (by omega),Int.emod_lt_of_pos _ hm⟩
theorem wN (h:0<=v):HT.c6 n d (some v)=min v.toNat n:=by
 show(if v<0 then (v+(n:Int)).toNat else min v.toNat n)=_;rw[if_neg (by omega)]
theorem IL (ds:List D)(e:fa ρ=some ds)(k:F ds=x):fA F fa ρ=x:=ai e k
@[simp] noncomputable abbrev Mt (ak:List D)(Fq:Int)(t:Env):Env:=some (.tup ak,false)::some (.int Fq,false)::t
@[simp] noncomputable abbrev eR (ns:List Int)(zs:List Str)(ms:Int)(Ih:List Str)(R:List D)(a b:OB)(t:Env):Env:=some (.lst (ns.map .int),false)::some (.lst (zs.map .str),false)::some (.int ms,false)::a::some (.lst (Ih.map .str),true)::some (.lst R,true)::b::t
end DL
namespace Lw
open PySem DL
noncomputable def hV:D:=(.int 255)
noncomputable def kR:D:=(.int 9999)
noncomputable def gJ:D:=(.int 9)
noncomputable def gK:D:=(.int 8)
noncomputable def hZ:D:=(.int 20)
noncomputable def fE:D:=(.int 8)
noncomputable def dc:D:=(.int 60)
noncomputable def bW:List (PySem.Str×D):=[(("root" : Str),(.tup [(.str "office"),(.str "matters"),(.str "further"),(.str "rule")])),(("named" : Str),(.tup [(.str "day"),(.str "office"),(.str "person")])),(("chosen" : Str),(.tup [(.str "day"),(.str "by"),(.str "office"),(.str "person"),(.str "since")])),(("heir" : Str),(.tup [(.str "day"),(.str "by"),(.str "office"),(.str "person")])),(("death" : Str),(.tup [(.str "day"),(.str "person")])),(("lost" : Str),(.tup [(.str "day"),(.str "person")])),(("found" : Str),(.tup [(.str "day"),(.str "person")])),(("leave" : Str),(.tup [(.str "day"),(.str "by"),(.str "person"),(.str "matters"),(.str "stretch"),(.str "further")])),(("paper" : Str),(.tup [(.str "day"),(.str "by"),(.str "matters"),(.str "stretch"),(.str "whom"),(.str "pieces")])),(("like" : Str),(.tup [(.str "day"),(.str "by"),(.str "matters"),(.str "stretch"),(.str "whom"),(.str "of"),(.str "changes")])),(("copy" : Str),(.tup [(.str "day"),(.str "by"),(.str "of")])),(("call" : Str),(.tup [(.str "day"),(.str "by"),(.str "of")]))]
noncomputable def cA:D:=(.tup [(.str "by"),(.str "person"),(.str "whom")])
noncomputable def sF:D:=(.tup [(.str "open"),(.str "first"),(.str "last")])
def kS:FS :=
  (aX (jO (fA aC (fV 0 (aa (fC (.ty "int")) af))) (jO (vj (fA aC (fV 0 (aa (fC (.ty "bool")) af)))) (eG mm mm (aj 1) (aj 0) (aj 2)))))
def cV:=aZ kS 3 0
def pC:FS :=
  (aX (fA cV (fV 0 (aa (fI 0) (aa (fC kR) af)))))
def eP:=aZ pC 1 0
def iW:FS :=
  (aD (di (dO (cZ (bD (fA aC (fV 0 (aa (fC (.ty "tuple")) af))))) (dO (bD (f2 yB (fA bZ (fV 0 af)) (fI 2))) (cZ (bD (fA eP (aa (cH 0 0) af)))))) (aX (fC (.bl false))) aU)
  (aX (Bt (f2 F9 (cH 0 1) (fC .non)) (jO (fA eP (aa (cH 0 1) af)) (f2 DJ (cH 0 0) (cH 0 1))))))
def dZ:=aZ iW 1 0
def iX:FS :=
  (aX (fA cV (fV 0 (aa (fI 1) (aa (fC hV) af)))))
def ej:=aZ iX 1 0
def mC:FS :=
  (aD (di (dO (cZ (bD (fA aC (fV 0 (aa (fC (.ty "str")) af))))) (cZ (bD (eG mm mm (fI 1) (fA bZ (fV 0 af)) (fC gK))))) (aX (fC (.bl false))) aU)
  (aX (fA nE (aa (bN (iL (aj 0)) 1 [] (fM 0) dw (eG mm mm (fS "a") (aj 0) (fS "z"))) af))))
def e7:=aZ mC 1 0
def mD:FS :=
  (aX (jO (fA aC (fV 0 (aa (fC (.ty "str")) af))) (f2 B3 (aj 0) (fC sF))))
def mE:=aZ mD 1 0
def kT:FS :=
  (aX (fA e7 (fV 0 af)))
def iz:=aZ kT 1 0
def jA:FS :=
  (aD (di (dO (cZ (bD (fA aC (fV 0 (aa (fC (.ty "tuple")) af))))) (cZ (bD (eG mm mm (fI 1) (fA bZ (fV 0 af)) (fC fE))))) (aX (fC (.bl false))) aU)
  (aX (fA nE (aa (bN (iL (aj 0)) 1 [] (fM 0) dw (fA iz (fV 0 af))) af))))
def jB:=aZ jA 1 0
def jC:FS :=
  (aD (di (dO (cZ (bD (fA aC (fV 0 (aa (fC (.ty "tuple")) af))))) (bD (f2 yB (fA bZ (fV 0 af)) (fI 2)))) (aX (fC (.bl false))) aU)
  (aX (jO (fA cV (aa (cH 0 0) (aa (fI 0) (aa (f2 lK (fC fE) (fI 1)) af)))) (fA iz (aa (cH 0 1) af)))))
def jD:=aZ jC 1 0
def iY:FS :=
  (aD (di (dO (cZ (bD (fA aC (fV 0 (aa (fC (.ty "tuple")) af))))) (cZ (bD (fA nE (aa (bN (iL (aj 0)) 1 [] (fM 0) dw (fA jD (fV 0 af))) af))))) (aX (fC (.bl false))) aU)
  (aD (bt 1 (bN (iL (aj 0)) 1 [] (fM 0) dw (cH 0 0)))
  (aX (fA nE (aa (bN (vK (aj 1) (iB (aj 1) (bJ (fI 1)) bP)) 2 [] (CA [0,1]) dw (f2 DJ (aj 0) (aj 1))) af)))))
def iZ:=aZ iY 1 1
def mF:FS :=
  (aD (di (dO (bD (f2 df (aj 0) (fS "day"))) (bD (f2 df (aj 0) (fS "since")))) (aX (fA eP (fV 1 af))) aU)
  (aD (di (dO (bD (f2 df (aj 0) (fS "office"))) (dO (bD (f2 df (aj 0) (fS "by"))) (bD (f2 df (aj 0) (fS "person"))))) (aX (fA e7 (fV 1 af))) aU)
  (aD (di (bD (f2 df (aj 0) (fS "whom"))) (aX (Bt (f2 F9 (aj 1) (fC .non)) (fA e7 (fV 1 af)))) aU)
  (aD (di (bD (f2 df (aj 0) (fS "matters"))) (aX (fA ej (fV 1 af))) aU)
  (aD (di (bD (f2 df (aj 0) (fS "stretch"))) (aX (fA dZ (fV 1 af))) aU)
  (aD (di (bD (f2 df (aj 0) (fS "further"))) (aX (fA cV (fV 1 (aa (fI 0) (aa (fC gJ) af))))) aU)
  (aD (di (bD (f2 df (aj 0) (fS "rule"))) (aX (fA mE (fV 1 af))) aU)
  (aD (di (bD (f2 df (aj 0) (fS "of"))) (aX (fA cV (fV 1 (aa (fI 0) (aa (f2 lK (fC dc) (fI 1)) af))))) aU)
  (aD (di (bD (f2 df (aj 0) (fS "pieces"))) (aX (fA jB (fV 1 af))) aU)
  (aX (fA iZ (fV 1 af))))))))))))
def bT:=aZ mF 2 0
def mG:FS :=
  (aD (di (dO (cZ (bD (fA aC (fV 0 (aa (fC (.ty "tuple")) af))))) (dO (bD (f2 df (fA bZ (fV 0 af)) (fI 0))) (cZ (bD (fA aC (aa (cH 0 0) (aa (fC (.ty "str")) af))))))) (aX (fC (.bl false))) aU)
  (aD (di (dO (bD (f1 (kC bW) (cH 0 0))) (bD (f2 yB (fA bZ (fV 0 af)) (f2 bj (fI 1) (fA bZ (aa (f1 (iP bW) (cH 0 0)) af)))))) (aX (fC (.bl false))) aU)
  (aX (fA nE (aa (bN (vK (f1 (iP bW) (cH 0 0)) (iB (aj 0) (bJ (fI 1)) bP)) 2 [] (CA [0,1]) dw (fA bT (fV 0 (fV 1 af)))) af)))))
def ju:=aZ mG 1 0
def mH:FS :=
  (aX (f2 cI (cH 0 1) (fI 0)))
def bU:=aZ mH 1 0
def mI:FS :=
  (aX (f2 cI (cH 0 1) (f2 bj (fI 1) (f2 (pv bW) (fA bU (fV 0 af)) (aj 1)))))
def de:=aZ mI 2 0
def pD:FS :=
  (aD (di (bD (f2 df (fA bU (fV 0 af)) (fS "root"))) (aX (fC .non)) aU)
  (aX (fA de (fV 0 (aa (fS "day") af)))))
def ja:=aZ pD 1 0
def jE:FS :=
  (aD (bt 1 (fA ja (fV 0 af)))
  (aD (di (bD (f2 F9 (aj 1) (fC .non))) (aX (fC (.bl true))) aU)
  (aD (di (dQ (bD (f2 df (fA bU (fV 0 af)) (fS "chosen"))) (bD (f2 DJ (fA de (fV 0 (aa (fS "since") af))) (aj 1)))) (aX (fC (.bl false))) aU)
  (aX (f2 mm (aj 1) (cH 0 0))))))
def gL:=aZ jE 1 1
def pE:FS :=
  (aD (di (dO (cZ (bD (fA aC (fV 0 (aa (fC (.ty "tuple")) af))))) (bD (f2 yB (fA bZ (fV 0 af)) (fI 2)))) (aX (fC (.bl false))) aU)
  (aX (jO (fA eP (aa (cH 0 0) af)) (jO (fA ju (aa (cH 0 1) af)) (fA gL (fV 0 af))))))
def dq:=aZ pE 1 0
def gM:FS :=
  (aX (bN (iL (aj 0)) 1 [] (fM 0) (bD (f2 df (fA bU (fV 0 af)) (fS "root"))) (fA de (fV 0 (aa (fS "office") af)))))
def eQ:=aZ gM 1 0
def fR:FS :=
  (aX (jO (f2 df (fA bU (fV 1 af)) (fS "root")) (f2 B3 (fA de (fV 1 (aa (fS "office") af))) (fA eQ (fV 0 af)))))
def dA:=aZ fR 2 0
def kU:FS :=
  (aX (IH (f1 (iP bW) (fA bU (fV 0 af))) (iB (cH 0 1) (bJ (fI 1)) bP)))
def dB:=aZ kU 1 0
def jF:FS :=
  (aD (bt 1 (bN (iL (fA dB (fV 0 af))) 2 [] (CA [0,1]) (dQ (bD (f2 B3 (aj 0) (fC cA))) (bD (f2 nA (aj 1) (fC .non)))) (aj 1)))
  (aX (f1 iS (aj 1))))
def cB:=aZ jF 1 1
def gp:FS :=
  (wb 1 (fA cB (fV 2 af)))
def gN:FS :=
  (aD (bt 1 (fA b9 af))
  (aD (t7 (iL (aj 0)) (fM 2) gp)
  (aX (f1 iT (aj 1)))))
def eT:=aZ gN 1 2
def jb:FS :=
  (aD (di (dO (bD (f2 IG (aj 1) (fC dc))) (cZ (bD (fA dq (aa (f2 cI (aj 0) (aj 1)) af))))) (aX (fC (.bl true))) aU)
  (aX (Bt (fA dA (aa (iB (aj 0) bP (bJ (aj 1))) (aa (f2 cI (aj 0) (aj 1)) af))) (f2 F7 (fA eT (aa (iB (aj 0) bP (bJ (f2 bj (aj 1) (fI 1)))) af)) (fC hZ)))))
def bf:=aZ jb 2 0
def gO:FS :=
  (di (bD (fA bf (fV 1 (fV 2 af)))) jp aU)
def ia:FS :=
  (aD (di (cZ (bD (fA dX (fV 0 (aa (fA aB (aa (fC (.ty "list")) (aa (fC (.ty "tuple")) af))) af))))) jp aU)
  (aD (bt 1 (fA c8 (fV 0 af)))
  (aD (fN (bB (fA bZ (fV 1 af))) (fM 2) gO)
  (j5 1))))
def dG:=aZ ia 1 2
def jG:FS :=
  (aD (di (bD (f2 DJ (aj 1) (fA bZ (fV 0 af)))) (aX (f2 cI (aj 0) (aj 1))) aU)
  (aX (fI 0)))
def gP:=aZ jG 2 0
def jH:FS :=
  (aD (bt 4 (f2 bu (f2 bj (f2 bj (f2 bj (f2 qB (aj 4) (aj 4)) (f2 qB (fI 48271) (aj 4))) (aj 5)) (aj 1)) (fI 2147483647)))
  (ni 3 (aj 4)))
def kW:FS :=
  (aD (bt 3 (fA b9 af))
  (aD (bt 4 (f2 bu (f2 bj (f2 bj (f2 qB (f2 bu (aj 0) (fI 2147483647)) (fI 48271)) (f2 qB (f2 qB (aj 1) (aj 1)) (fI 69621))) (fI 11)) (fI 2147483647)))
  (aD (fN (bB (aj 2)) (fM 5) jH)
  (j5 3))))
def eU:=aZ kW 3 3
def kX:FS :=
  (aX (f2 bj (f2 bj (f2 cI (fS "abcdefghij") (f2 bu (aj 0) (fI 10))) (f2 cI (fS "xy") (f2 bu (f2 ik (aj 0) (fI 10)) (fI 2)))) (f2 cI (fS "pq") (f2 ik (aj 0) (fI 20)))))
def aE:=aZ kX 1 0
def mJ:FS :=
  (aD (bt 4 (fA eU (aa (f2 cI (aj 0) (aj 3)) (fV 3 (aa (fI 3) af)))))
  (di (bD (f2 df (f2 bu (cH 4 0) (fI 3)) (fI 0))) (ni 2 (fA aB (aa (f2 bu (cH 4 1) (fI 10000)) (aa (fA aB (aa (fS "root") (aa (f2 bj (f2 bj (f2 cI (fS "abcdefgh") (f2 bu (aj 3) (fI 8))) (f2 cI (fS "abcdefgh") (f2 ik (aj 3) (fI 8)))) (fS "r")) (aa (fI 7) (aa (fI 2) (aa (fS "last") af)))))) af)))) (ni 2 (fA aB (aa (fI 9999) (aa (fA aB (aa (fS "death") (aa (f2 bu (cH 4 1) (fI 10000)) (aa (fA aE (aa (f2 bu (cH 4 2) (fI 20)) af)) af)))) af))))))
def pF:FS :=
  (aD (bt 2 (fA b9 af))
  (aD (fN (jY (fI 2) (fA yE (aa (fA bZ (fV 0 af)) (aa (f2 bj (fI 2) (aj 1)) af)))) (fM 3) mJ)
  (j5 2)))
def kY:=aZ pF 2 3
def kZ:FS :=
  (aD (bt 1 (fA b9 (aa (fC .non) (aa (fI 7) (aa (fC (.bl true)) (aa (fS "death") (aa (fA b9 (aa (fI 9) (aa (fA aB (aa (fS "death") (aa (fI 3) (aa (fS "a") af)))) af))) (aa (fA aB (aa (fS "death") (aa (fI 3) (aa (fS "a") af)))) (aa (fA aB (aa (fI 3) (aa (fA aB (aa (fS "death") (aa (fI 4) (aa (fS "a") af)))) af))) (aa (fA aB af) af))))))))))
  (aD (bt 1 (f2 bj (aj 1) (fA b9 (aa (fA aB (aa (fI 9999) (aa (fA aB (aa (fS "death") (aa (fI 10000) (aa (fS "a") af)))) af))) (aa (fA aB (aa (fI 9) (aa (fA aB (aa (fS "root") (aa (fS "office") (aa (fI 256) (aa (fI 1) (aa (fS "open") af)))))) af))) (aa (fA aB (aa (fI 9) (aa (fA aB (aa (fS "call") (aa (fI 3) (aa (fS "a") (aa (fI 60) af))))) af))) af))))))
  (aD (bt 1 (f2 bj (aj 1) (fA b9 (aa (fA aB (aa (fI 9) (aa (fA aB (aa (fS "root") (aa (fS "office") (aa (fI 1) (aa (fI 10) (aa (fS "open") af)))))) af))) (aa (fA aB (aa (fI 9) (aa (fA aB (aa (fS "copy") (aa (fI 3) (aa (fS "A") (aa (fI 1) af))))) af))) (aa (fA aB (aa (fI 9) (aa (fA b9 (aa (fS "death") (aa (fI 3) (aa (fS "a") af)))) af))) af))))))
  (aD (bt 1 (f2 bj (aj 1) (fA b9 (aa (fA aB (aa (fI 9) (aa (fA aB (aa (fS "died") (aa (fI 3) (aa (fS "a") af)))) af))) (aa (fA aB (aa (fI 9) (aa (fA aB (aa (fS "leave") (aa (fI 3) (aa (fS "a") (aa (fS "b") (aa (fI 1) (aa (fA aB (aa (fI 4) (aa (fI 4) af))) (aa (fI 0) af)))))))) af))) (aa (fA aB (aa (fI 10000) (aa (fA aB (aa (fS "death") (aa (fI 3) (aa (fS "a") af)))) af))) af))))))
  (aX (f2 cI (aj 1) (f2 bu (aj 0) (fA bZ (fV 1 af)))))))))
def dC:=aZ kZ 1 1
def jI:FS :=
  (aD (bt 2 (bN (bB (fI 20)) 1 [] (fM 0) dw (fA aB (aa (fI 9999) (aa (fA aB (aa (fS "death") (aa (fI 1) (aa (fA aE (fV 0 af)) af)))) af)))))
  (aD (bt 3 (fA aB (aa (fS "leave") (aa (fI 5) (aa (fA aE (aa (fI 20) af)) (aa (fA aE (aa (f2 bu (cH 1 2) (fI 20)) af)) (aa (fI 1) (aa (fA aB (aa (fI 0) (aa (fC .non) af))) (aa (fI 0) af)))))))))
  (aD (di (bD (f2 df (f2 bu (cH 1 1) (fI 2)) (fI 0))) (bt 3 (fA aB (aa (fS "paper") (aa (fI 5) (aa (fA aE (aa (f2 bu (cH 1 2) (fI 20)) af)) (aa (fI 1) (aa (fA aB (aa (fI 0) (aa (fC .non) af))) (aa (fA aE (aa (fI 20) af)) (aa (fA aB (aa (fS "a") af)) af))))))))) aU)
  (aD (bt 2 (f2 bj (iB (aj 2) (bJ (f2 bu (cH 1 2) (fI 20))) bP) (iB (aj 2) bP (bJ (f2 bu (cH 1 2) (fI 20))))))
  (aD (bt 4 (iB (bN (iL (aj 0)) 1 [] (fM 0) (bD (f2 df (f2 cI (cH 0 1) (fI 0)) (fS "root"))) (aj 0)) bP (bJ (fI 20))))
  (aD (bt 5 (f2 bu (cH 1 3) (f2 bj (fA bZ (fV 4 af)) (fI 1))))
  (aX (fA b9 (aa (f2 bj (f2 bj (f2 bj (iB (aj 4) bP (bJ (aj 5))) (aj 2)) (fA b9 (aa (fA aB (aa (fI 9) (fV 3 af))) af))) (iB (aj 4) (bJ (aj 5)) bP)) (aa (f2 bj (aj 5) (fI 20)) af))))))))))
def dI:=aZ jI 2 4
def pG:FS :=
  (aD (bt 2 (f2 bu (cH 1 0) (fI 6)))
  (aD (bt 3 (f2 bu (cH 1 1) (f2 bj (fA bZ (fV 0 af)) (fI 1))))
  (aD (di (bD (f2 df (aj 2) (fI 0))) (aX (fA b9 (aa (f2 cI (fA b9 (aa (fC .non) (aa (fI 7) (aa (fS "rows") (aa GU (aa (fC (.bl true)) (aa (fS "") (aa (fA aB (aa (fI 9) (aa (fI 9) af))) af)))))))) (f2 bu (cH 1 1) (fI 6))) (aa (fC .non) af)))) aU)
  (aD (di (bD (f2 df (aj 2) (fI 1))) (aX (fA dI (fV 0 (fV 1 af)))) aU)
  (aD (bt 4 (bN (bB (fA bZ (fV 0 af))) 1 [0] (fM 0) (bD (f2 df (f2 cI (f2 cI (f2 cI (aj 1) (aj 0)) (fI 1)) (fI 0)) (fS "root"))) (aj 0)))
  (aD (di (dQ (bD (f2 df (aj 2) (fI 2))) (bD (f2 F7 (fA bZ (fV 4 af)) (fI 0)))) (aD (bt 5 (f2 cI (aj 4) (f2 bu (cH 1 2) (fA bZ (fV 4 af)))))
  (aD (bt 6 (fA aB (aa (f2 bu (cH 1 3) (fI 10000)) (aa (fA aB (aa (fS "root") (aa (f2 cI (f2 cI (f2 cI (aj 0) (aj 5)) (fI 1)) (fI 1)) (aa (f2 bj (fI 1) (f2 bu (cH 1 3) (fI 255))) (aa (fI 0) (aa (fS "open") af)))))) af))))
  (aD (di (bD (f2 mm (aj 3) (aj 5))) (aX (fA b9 (aa (f2 bj (f2 bj (iB (aj 0) bP (bJ (aj 3))) (fA b9 (fV 6 af))) (iB (aj 0) (bJ (aj 3)) bP)) (aa (f2 bj (aj 5) (fI 1)) af)))) aU)
  (aX (fA b9 (aa (f2 bj (f2 bj (iB (aj 0) bP (bJ (aj 3))) (fA b9 (fV 6 af))) (iB (aj 0) (bJ (aj 3)) bP)) (fV 3 af))))))) aU)
  (aD (di (bD (f2 df (aj 2) (fI 3))) (aD (bt 7 (f2 bj (aj 0) (bN (bB (f2 lK (fI 61) (fA bZ (fV 0 af)))) 1 [] (fM 0) dw (fA aB (aa (fI 9999) (aa (fA aB (aa (fS "death") (fV 0 (aa (fS "axp") af)))) af))))))
  (aX (fA b9 (fV 7 (aa (fI 60) af))))) aU)
  (aX (fA b9 (aa (f2 bj (f2 bj (iB (aj 0) bP (bJ (aj 3))) (fA b9 (aa (fA dC (aa (cH 1 2) af)) af))) (iB (aj 0) (bJ (aj 3)) bP)) (fV 3 af)))))))))))
def la:=aZ pG 2 6
def A0:FS :=
  (di (bD (fA bf (fV 1 (fV 2 af)))) (aX (aj 2)) aU)
def gx:FS :=
  (aD (di (cZ (bD (fA dX (fV 0 (aa (fA aB (aa (fC (.ty "list")) (aa (fC (.ty "tuple")) af))) af))))) (aX (fC .non)) aU)
  (aD (bt 1 (fA c8 (fV 0 af)))
  (aD (fN (bB (fA bZ (fV 1 af))) (fM 2) A0)
  jp)))
def bp:List D->OB:=j9 gx 1 2
noncomputable def lb:D->D->Bool
 |.non,.non=>true
 |.int i,.int j=>decide (i=j)
 |_,_=>false
def cC:List D->OB
 |[th,a,.bl _]=>(bp [th]).bind λr=>if lb r.1 a=true then some (.bl true,false)else none
 |_=>none
def A1:FS :=
  (aD (bt 1 (fA kY (fV 0 (aa (fI 40) af))))
  (aD (bt 2 (fA eU (aa (fA gP (fV 0 (aa (fI 0) af))) (aa (fI 80) (aa (fI 5) af)))))
  (aD (mq [3,4] (fA la (fV 1 (fV 2 af))))
  (aD (di (dQ (bD (fA aC (fV 3 (aa (fC (.ty "list")) af)))) (bD (f2 df (f2 bu (f2 ik (cH 2 4) (fI 4)) (fI 4)) (fI 1)))) (bt 3 (f2 bj (aj 3) (fA b9 (aa (fA dC (aa (cH 2 1) af)) af)))) aU)
  (aD (di (dQ (bD (fA aC (fV 3 (aa (fC (.ty "list")) af)))) (bD (f2 df (f2 bu (f2 ik (cH 2 4) (fI 4)) (fI 4)) (fI 2)))) (bt 3 (f2 bj (aj 3) (bN (bB (f2 lK (fI 62) (fA bZ (fV 3 af)))) 1 [] (fM 0) dw (fA aB (aa (fI 9999) (aa (fA aB (aa (fS "death") (aa (fI 7) (aa (fA aE (aa (f2 bu (aj 0) (fI 20)) af)) af)))) af)))))) aU)
  (aD (di (dQ (bD (fA aC (fV 3 (aa (fC (.ty "list")) af)))) (bD (f2 df (f2 bu (f2 ik (cH 2 4) (fI 4)) (fI 4)) (fI 3)))) (aD (bt 3 (f2 bj (aj 3) (bN (bB (fI 30)) 1 [] (fM 0) dw (fA aB (aa (fI 9999) (aa (fA aB (aa (fS "death") (aa (fI 7) (aa (fA aE (fV 0 af)) af)))) af))))))
  (bt 3 (f2 bj (aj 3) (yP (fA b9 (aa (fA aB (aa (fI 9) (aa (fA aB (aa (fS "root") (aa (fS "q") (aa (fI 1) (aa (fI 1) (aa (fS "open") af)))))) af))) af)) (fI 2))))) aU)
  (aD (di (dQ (bD (fA aC (fV 3 (aa (fC (.ty "list")) af)))) (bD (f2 df (f2 bu (cH 2 4) (fI 2)) (fI 0)))) (bt 3 (fA c8 (fV 3 af))) aU)
  (aD (di (cZ (bD (fA cC (fV 3 (fV 4 (aa (f2 df (f2 bu (f2 ik (cH 2 4) (fI 2)) (fI 2)) (fI 0)) af)))))) (aX (fC (.bl false))) aU)
  (aD (di (bD (f2 yB (fA dG (fV 1 af)) (fA c8 (fV 1 af)))) (aX (fC (.bl false))) aU)
  (aX (fA cC (fV 3 (fV 4 (aa (f2 df (f2 bu (f2 ik (cH 2 4) (fI 2)) (fI 2)) (fI 1)) af))))))))))))))
def F_law:=aZ A1 1 4
end Lw
namespace DL
open PySem L2
theorem le:∀(n m:Nat)(d:D),n<=m->aM n d=true->aM m d=true
 |n,m,.non,_,_=>by simp
 |n,m,.bl _,_,_=>by simp
 |n,m,.int _,_,_=>by simp
 |n,m,.str _,_,_=>by simp
 |n,m,.ty _,_,h=>by cases n<;>simp[aM]at h
 |n,m,.dk _ _,_,h=>by simp at h
 |n,m,.dt _ _,_,h=>by simp at h
 |0,m,.tup _,_,h=>by simp[aM]at h
 |0,m,.lst _,_,h=>by simp[aM]at h
 |n+1,0,_,h,_=>by omega
 |n+1,m+1,.tup ds,hl,h=>by
  simp only[aM,List.all_eq_true]at h ⊢;exact λd hd=>le n m d (by omega) (h d hd)
 |n+1,m+1,.lst ds,hl,h=>by
  simp only[aM,List.all_eq_true]at h ⊢;exact λd hd=>le n m d (by omega) (h d hd)
theorem jv:∀(ds:List D),(∀d∈ds,cE d d=true)->gv ds ds=true
 |[],_=>by simp only[gv]
 |d::ds,h=>by
  simp only[gv,h d mX,Bool.true_and];exact jv ds λe he=>h e (mZ _ he)
theorem lf:∀(n:Nat)(d:D),aM n d=true->cE d d=true
 |n,.non,_=>by simp
 |n,.bl _,_=>by simp
 |n,.int _,_=>by simp
 |n,.str _,_=>by simp
 |n,.ty _,h=>by cases n<;>simp[aM]at h
 |n,.dk _ _,h=>by simp at h
 |n,.dt _ _,h=>by simp at h
 |0,.tup _,h=>by simp[aM]at h
 |0,.lst _,h=>by simp[aM]at h
 |n+1,.tup ds,h=>by
  simp only[aM,List.all_eq_true]at h;simp only[cE];exact jv ds λd hd=>lf n d (h d hd)
 |n+1,.lst ds,h=>by
  simp only[aM,List.all_eq_true]at h;simp only[cE];exact jv ds λd hd=>lf n d (h d hd)
end DL
namespace Lw
open PySem DL L2
theorem A2 (d:D)(r:List D):md (d::r) 0=some d:=by have:=eN (xs:=d::r) (j:=0) (by simp);simpa using this
theorem A3 (d e:D)(r:List D):md (d::e::r) 1=some e:=by have:=eN (xs:=d::e::r) (j:=1) (by simp);simpa using this
theorem jJ (zs:List Str):bi (zs.map D.str)=true:=by
 induction zs with
 |nil=>rfl
 |cons a l ih=>simp[ih]
theorem eV {ds:List D}(h:∀d∈ds,bw d=true):bi ds=true:=by
 induction ds with
 |nil=>rfl
 |cons d r ih=>simp[h d (by simp),ih λe he=>h e (by simp[he])]
theorem Em (d:D)(r:List D):jP (d::r) (some 1) none=r:=by
 unfold jP;rw[wN (v:=1) (by decide)];have:HT.c6 (d::r).length (d::r).length none=(d::r).length:=rfl;rw[this];have:min (1:Int).toNat (d::r).length=1:=by simp
 rw[this];simp
theorem lg (ak:List D)(n:Nat):jP ak none (some (n:Int))=ak.take n:=by
 unfold jP;rw[HT.oy,HT.rF];simp
theorem sG {op:D->OB}{fa:FE}{ρ:DL.Env}{x:D}{b:Bool}{z:OB}(e1:fa ρ=some (x,b))(e2:op x=z):f1 op fa ρ=z:=by unfold f1;rw[e1];exact e2
theorem pH (parts:List Str)(ay:List D):fz (parts.map .str) ay=(parts.zip ay).map λx=>.tup [.str x.1,x.2]:=by
 induction parts generalizing ay with
 |nil=>rfl
 |cons a l ih=>
  cases ay with
  |nil=>rfl
  |cons d r=>have:=ih r;unfold fz at this ⊢;simp[this]
theorem wO {α:Type}(l:List α):nE [.lst (l.map λ_=>.bl true)]=some (.bl true,false):=by
 have:=pB (λ_:α=>true) l;simp only[nE,this,Option.map_some];congr 2;simp
noncomputable def sI (c:Nat):Bool:=decide (97<=c) && decide (c<=122)
theorem BS:("a" : Str)=⟨#[97]⟩:=by decide +kernel
theorem BU:("z" : Str)=⟨#[122]⟩:=by decide +kernel
theorem pI (c:Nat)(ρ:DL.Env)(h:ρ[0]? = some (some (.str ⟨#[c]⟩,false))):eG mm mm (fC (.str "a")) (aj 0) (fC (.str "z")) ρ=some (.bl (sI c),false):=by
 refine kP (x:=.str ⟨#[97]⟩) (y:=.str ⟨#[c]⟩) (z:=.str ⟨#[122]⟩) (b1:=false) (b2:=false) (b3:=false) (b4:=false) ?_ ?_ ?_ (sE _ _) λ_=>sE _ _
 ·rw[BS];rfl
 ·simp[h]
 ·rw[BU];rfl
noncomputable def pJ (z:Str):Bool:=(decide (1<=z.length) && decide (z.length<=8)) && z.cps.toList.all sI
theorem wP (z:Str):z.cps.toList.length=z.length:=by simp[Str.length]
theorem gQ {z:Str}(h:pJ z=true):e7 [.str z]=some (.bl true,false):=by
 unfold pJ at h;rw[vC,vC]at h;obtain⟨⟨h1,h8⟩,ha⟩:=h;have h1:=of_decide_eq_true h1;have h8:=of_decide_eq_true h8;have hl:z.length<=sizeLine:=eO (by omega);refine aF rfl (aH (cM (p:=false) (q:=false) (by simp) λ_=>dY (p:=true) (aN (b:=false) ((kP (x:=.int 1) (y:=.int z.length) (z:=.int 8) (b1:=false) (b2:=false) (b3:=false) (b4:=false) (p:=true) (q:=true) rfl (by simp[hl]) rfl (by simp;omega) λ_=>by simp;omega).trans rfl))) (aR (ai (ds:=[.lst (z.cps.toList.map λc=>.bl (sI c))]) ?_ ?_)))
 ·have:=mB (fi:=iL (aj 0)) (nT:=1) (cap:=[]) (tg:=fM 0) (fe:=eG mm mm (fC (.str "a")) (aj 0) (fC (.str "z"))) (ρ:=[some (.str z,false)]) z.cps.toList (λc=>.str ⟨#[c]⟩) (λc=>.bl (sI c)) (by simp[ud]) (by rw[wP];omega) λc _=>
   ⟨_,rfl,false,pI c _ (by simp[fj])⟩
  exact aq (b:=true) this rfl
 ·simp only[nE,pB,Option.map_some,List.all_map];congr 2;exact congrArg D.bl ha
theorem jw {d lo hi:Int}(h1:lo<=d)(h2:d<=hi):cV [.int d,.int lo,.int hi]=some (.bl true,false):=by
 refine aF rfl (aR ((kQ (p:=true) (q:=true) (b1:=false) (by simp) λ_=>(kQ (p:=true) (q:=true) (b1:=false) (zf (p:=false) (b1:=false) (by simp)) λ_=>(kP (x:=.int lo) (y:=.int d) (z:=.int hi) (b1:=false) (b2:=false) (b3:=false) (b4:=false) (p:=true) (q:=true) rfl rfl rfl (by simp;omega) λ_=>by simp;omega).trans rfl).trans rfl).trans rfl))
theorem jc {d:Int}(h1:0<=d)(h2:d<=9999):eP [.int d]=some (.bl true,false):=aF rfl (aR (ai (ds:=[.int d,.int 0,.int 9999]) rfl (jw h1 h2)))
theorem gR {d:Int}(h1:1<=d)(h2:d<=255):ej [.int d]=some (.bl true,false):=aF rfl (aR (ai (ds:=[.int d,.int 1,.int 255]) rfl (jw h1 h2)))
theorem jK {d:Int}(h1:0<=d)(h2:d<=9999):dZ [.tup [.int d,.non]]=some (.bl true,false):=by
 refine aF rfl (aH (cM (p:=false) (q:=false) (by simp) λ_=>cM (p:=false) (q:=false) (by simp) λ_=>dY (p:=true) (aN (b:=false) (ai (ds:=[.int d]) (by simp[A2]) (jc h1 h2)))) (aR ((Az (p:=true) (q:=true) (b1:=false) (by simp[A3,ny]) (by simp)).trans rfl)))
theorem cq {p q:Str}{v:D}{b:Bool}(h:decide (p=q)=b):bD (f2 df (aj 0) (fC (.str q))) [some (.str p,false),some (v,false)]=some b:=aN (b:=false) (aS (x:=.str p) (y:=.str q) (b1:=false) (b2:=false) rfl rfl (by simp[←h]))
theorem c2 {p q r:Str}{v:D}(h:(decide (p=q) || decide (p=r))=false):dO (bD (f2 df (aj 0) (fC (.str q)))) (bD (f2 df (aj 0) (fC (.str r)))) [some (.str p,false),some (v,false)]=some false:=(cM (cq rfl) λ_=>cq rfl).trans (by rw[h])
theorem c3 {p q r t:Str}{v:D}(h:(decide (p=q) || (decide (p=r) || decide (p=t)))=false):dO (bD (f2 df (aj 0) (fC (.str q)))) (dO (bD (f2 df (aj 0) (fC (.str r)))) (bD (f2 df (aj 0) (fC (.str t))))) [some (.str p,false),some (v,false)]=some false:=(cM (cq rfl) λ_=>cM (cq rfl) λ_=>cq rfl).trans (by rw[h])
theorem Kw {p q r:Str}{v:D}(h:(decide (p=q) || decide (p=r))=true):dO (bD (f2 df (aj 0) (fC (.str q)))) (bD (f2 df (aj 0) (fC (.str r)))) [some (.str p,false),some (v,false)]=some true:=(cM (cq rfl) λ_=>cq rfl).trans (by rw[h])
theorem Kx {p q r t:Str}{v:D}(h:(decide (p=q) || (decide (p=r) || decide (p=t)))=true):dO (bD (f2 df (aj 0) (fC (.str q)))) (dO (bD (f2 df (aj 0) (fC (.str r)))) (bD (f2 df (aj 0) (fC (.str t))))) [some (.str p,false),some (v,false)]=some true:=(cM (cq rfl) λ_=>cM (cq rfl) λ_=>cq rfl).trans (by rw[h])
theorem jd {p:Str}{v:D}(h0:(decide (p=("day" : Str)) || decide (p=("since" : Str)))=false)(hp:(decide (p=("office" : Str)) || (decide (p=("by" : Str)) || decide (p=("person" : Str))))=true)(h:e7 [v]=some (.bl true,false)):bT [.str p,v]=some (.bl true,false):=aF rfl (aH (c2 h0) (cL (Kx hp) (aR (ai (ds:=[v]) rfl h))))
theorem qX {p:Str}{v:D}(hp:(decide (p=("day" : Str)) || decide (p=("since" : Str)))=true)(h:eP [v]=some (.bl true,false)):bT [.str p,v]=some (.bl true,false):=aF rfl (cL (Kw hp) (aR (ai (ds:=[v]) rfl h)))
theorem i6 {v:D}(h:ej [v]=some (.bl true,false)):bT [.str "matters",v]=some (.bl true,false):=aF rfl (aH (c2 (by decide +kernel)) (aH (c3 (by decide +kernel)) (aH (cq (by decide +kernel)) (cL (cq (by decide +kernel)) (aR (ai (ds:=[v]) rfl h))))))
theorem lh {v:D}(h:dZ [v]=some (.bl true,false)):bT [.str "stretch",v]=some (.bl true,false):=aF rfl (aH (c2 (by decide +kernel)) (aH (c3 (by decide +kernel)) (aH (cq (by decide +kernel)) (aH (cq (by decide +kernel)) (cL (cq (by decide +kernel)) (aR (ai (ds:=[v]) rfl h)))))))
theorem li {d:Int}(h1:0<=d)(h2:d<=9):bT [.str "further",.int d]=some (.bl true,false):=aF rfl (aH (c2 (by decide +kernel)) (aH (c3 (by decide +kernel)) (aH (cq (by decide +kernel)) (aH (cq (by decide +kernel)) (aH (cq (by decide +kernel)) (cL (cq (by decide +kernel)) (aR (ai (ds:=[.int d,.int 0,.int 9]) rfl (jw h1 h2)))))))))
noncomputable def row (h:Int)(kind:Str)(ay:List D):D:=.tup [.int h,.tup (.str kind::ay)]
noncomputable def qY (z:Str):Bool:=Ak (.str z) [.str "by",.str "person",.str "whom"]
noncomputable def there:D->Bool
 |.non=>false
 |_=>true
@[simp] theorem GW:there .non=false:=rfl
@[simp] theorem GX (z:Str):there (.str z)=true:=rfl
@[simp] theorem GY (z:Int):there (.int z)=true:=rfl
@[simp] theorem GZ (z:List D):there (.tup z)=true:=rfl
theorem pK (d:D)(h:yF d=false):nA d .non=some (.bl (there d),false):=by
 cases d<;>simp[ny,there]at h ⊢
noncomputable def Ha (l:List (Str×D)):List D:=(l.filter λx=>qY x.1 && there x.2).map (·.2)
structure DeedG (h:Int)(kind:Str)(ay:List D)(ss:List Str):Prop where
 parts:∃(parts:List Str),iP bW (.str kind)=some (.tup (parts.map .str),false)/\parts.length=ay.length/\(∀x∈parts.zip ay,bT [.str x.1,x.2]=some (.bl true,false))/\Ha (parts.zip ay)=ss.map .str
 ss2:ss.length<=2
 len:ay.length<=10
 flat:∀d∈ay,bw d=true/\yF d=false
 day:(kind=("root" : Str)/\∃o r,ay=.str o::r)∨(kind≠("root" : Str)/\(∃(day:Int)(r:List D),ay=.int day::r/\day<=h/\0<=day/\(kind=("chosen" : Str)->∃a b c s,r=[a,b,c,.int s]/\day<=s))/\pv bW (.str kind) (.str "day")=some (.int 0,false))
def fU (r:D)(ss:List Str):Prop:=∃h kind ay,r=row h kind ay/\0<=h/\h<=9999/\DeedG h kind ay ss
theorem gV (h:Int)(kind:Str)(ay:List D):bU [row h kind ay]=some (.str kind,false):=aF rfl (aR (by simp[row,A3,A2]))
theorem nQ {h:Int}{k:Str}{ay:List D}{part:Str}{i:Nat}{d:D}(hi:pv bW (.str k) (.str part)=some (.int i,false))(hd:ay[i]? = some d):de [row h k ay,.str part]=some (d,false):=by
 refine aF rfl (aR ?_);refine aS (x:=.tup (.str k::ay)) (y:=.int (1+i)) (b1:=false) (b2:=false) (by simp[row,A3]) (aS (x:=.int 1) (y:=.int i) (b1:=false) (b2:=false) rfl (aS (x:=.str k) (y:=.str part) (b1:=false) (b2:=false) (ai (ds:=[row h k ay]) rfl (gV _ _ _)) rfl hi) (by simp)) ?_;have fG:i<ay.length:=(vV hd).1;have:md (.str k::ay) (1+(i:Int))=some d:=by
  have:=eN (xs:=(.str k:D)::ay) (j:=i+1) (by simp;omega);rw[show(1+(i:Int))=((i+1:Nat):Int) by omega,this];simp only[List.getElem_cons_succ];rw[vU fG]at hd;exact hd
 simp[this]
theorem BV (k q:Str):df (.str k) (.str q)=some (.bl (decide (k=q)),false):=by simp
noncomputable def wQ:D->D
 |.tup [_,.tup (.str _::.int d::_)]=>.int d
 |_=>.non
theorem zh {h:Int}{kind:Str}{ay:List D}(g:DeedG h kind ay ss):ja [row h kind ay]=some (wQ (row h kind ay),false):=by
 rcases g.day with⟨e,o,r,rfl⟩|⟨e,⟨day,r,rfl,_⟩,hi⟩
 ·exact aF rfl (cL (aN (b:=false) (aS (x:=.str kind) (y:=.str "root") (b1:=false) (b2:=false) (ai (ds:=[row h kind (.str o::r)]) rfl (gV _ _ _)) rfl (by rw[BV,decide_eq_true e]))) (aR rfl))
 ·exact aF rfl (aH (aN (b:=false) (aS (x:=.str kind) (y:=.str "root") (b1:=false) (b2:=false) (ai (ds:=[row h kind (.int day::r)]) rfl (gV _ _ _)) rfl (by rw[BV,decide_eq_false e]))) (aR (ai (ds:=[row h kind (.int day::r),.str "day"]) rfl (nQ (i:=0) hi rfl))))
theorem wR {h:Int}{kind:Str}{ay:List D}(g:DeedG h kind ay ss):ju [.tup (.str kind::ay)]=some (.bl true,false):=by
 obtain⟨parts,hp,hl,ha,_⟩:=g.parts;have Mj:(bW.lookup kind).isSome=true:=by
  simp only[iP]at hp;obtain⟨d,h1,_⟩:=oY hp;rw[h1];rfl
 have hsz:=g.len;have e0:f2 cI (aj 0) (fC (.int 0)) [some (.tup (.str kind::ay),false)]=some (.str kind,false):=by simp[A2]
 have eg:f1 (iP bW) (f2 cI (aj 0) (fC (.int 0))) [some (.tup (.str kind::ay),false)]=some (.tup (parts.map .str),false):=sG (x:=.str kind) (b:=false) e0 hp;refine aF rfl (aH (cM (p:=false) (q:=false) (by simp) λ_=>cM (p:=false) (q:=false) (aN (b:=false) (by simp;omega)) λ_=>dY (p:=true) (aN (b:=false) (ai (ds:=[.str kind,.ty "str"]) (aq e0 rfl) (by simp)))) (aH (cM (p:=false) (q:=false) (aN (b:=false) (sG (x:=.str kind) (b:=false) e0 ?_)) λ_=>aN (b:=false) (aS (x:=.int ((ay.length+1:Nat):Int)) (y:=.int (1+(parts.length:Int))) (b1:=false) (b2:=false) (by simp) (aS (x:=.int 1) (y:=.int parts.length) (b1:=false) (b2:=false) rfl (ai (ds:=[.tup (parts.map .str)]) (aq eg rfl) (by simp)) (by simp)) ?_)) (aR (ai (ds:=[.lst ((parts.zip ay).map λ_=>.bl true)]) ?_ (wO _)))))
 ·simp only[kC,Mj];rfl
 ·simp;omega
 ·have:=mB (fi:=vK (f1 (iP bW) (f2 cI (aj 0) (fC (.int 0)))) (iB (aj 0) (bJ (fC (.int 1))) bP)) (nT:=2) (cap:=[]) (tg:=CA [0,1]) (fe:=fA bT (aa (aj 0) (aa (aj 1) af))) (ρ:=[some (.tup (.str kind::ay),false)]) (parts.zip ay) (λx=>.tup [.str x.1,x.2]) (λ_=>.bl true)
   (by
    show(f1 (iP bW) _ _).bind _=_;rw[eg];simp[Em,pH]) (by rw[List.length_zip];omega) λx hx=>by
    have CV:=g.flat x.2 (List.of_mem_zip hx).2;exact⟨_,rfl,false,ai (ds:=[.str x.1,x.2]) (by simp[fj]) (ha x hx)⟩
  exact aq (b:=true) this rfl
theorem ue (r:D):bw (wQ r)=true:=by
 unfold wQ;split<;>rfl
theorem qZ {h:Int}{kind:Str}{ay:List D}(g:DeedG h kind ay ss):gL [row h kind ay]=some (.bl true,false):=by
 have hd:=zh g;have zO:∀ {hh:FS}{r:Option Res},hh [some (row h kind ay,false),some (wQ (row h kind ay),false)]=r->aD (bt 1 (fA ja (aa (aj 0) af))) hh [some (row h kind ay,false),none]=r:=λe=>fD (d:=wQ (row h kind ay)) (b:=false) (ai (ds:=[row h kind ay]) rfl hd) (ue _) e;rcases g.day with⟨e,o,r,rfl⟩|⟨e,⟨day,r,rfl,HM,MC,uz⟩,hi⟩
 ·exact aF rfl (zO (cL (aN (b:=false) (aS (x:=.non) (y:=.non) (b1:=false) (b2:=false) rfl rfl (by simp[ny]))) (aR rfl)))
 ·refine aF rfl (zO (aH (aN (b:=false) (aS (x:=.int day) (y:=.non) (b1:=false) (b2:=false) rfl rfl (by simp[ny]))) (aH ((iV (p:=decide (kind=("chosen" : Str))) (q:=false) (aN (b:=false) (aS (x:=.str kind) (y:=.str "chosen") (b1:=false) (b2:=false) (ai (ds:=[row h kind (.int day::r)]) rfl (gV _ _ _)) rfl (BV _ _))) λhc=>?_).trans (by rw[Bool.and_false])) (aR ?_))))
  ·have hc:=of_decide_eq_true hc;subst hc;obtain⟨a,b,c,s,rfl,hs⟩:=uz rfl;refine aN (b:=false) (aS (x:=.int s) (y:=.int day) (b1:=false) (b2:=false) (ai (ds:=[row h ("chosen" : Str) [.int day,a,b,c,.int s],.str "since"]) rfl (nQ (i:=4) (cw (by decide +kernel)) rfl)) rfl ?_);simp;omega
  ·refine aS (x:=.int day) (y:=.int h) (b1:=false) (b2:=false) rfl (by simp[row,A2]) ?_;simp;omega
theorem zi {r:D}(g:fU r ss):dq [r]=some (.bl true,false):=by
 obtain⟨h,kind,ay,rfl,h0,h1,g⟩:=g;refine aF rfl (aH (cM (p:=false) (q:=false) (by simp[row]) λ_=>by simp[row]) (aR ((kQ (p:=true) (q:=true) (b1:=false) (ai (ds:=[.int h]) (by simp[row,A2]) (jc h0 h1)) λ_=>(kQ (p:=true) (q:=true) (b1:=false) (ai (ds:=[.tup (.str kind::ay)]) (by simp[row,A3]) (wR g)) λ_=>ai (ds:=[row h kind ay]) rfl (qZ g)).trans rfl).trans rfl)))
noncomputable def kindOf:D->Str
 |.tup [_,.tup (.str k::_)]=>k
 |_=>("" : Str)
def bx (r:D):Bool:=decide (kindOf r=("root" : Str))
noncomputable def dJ:D->Str
 |.tup [_,.tup (_::.str o::_)]=>o
 |_=>("" : Str)
theorem zj:pv bW (.str "root") (.str "office")=some (.int 0,false):=cw (by decide +kernel)
theorem pL {r:D}(g:fU r ss)(h:bx r=true):de [r,.str "office"]=some (.str (dJ r),false):=by
 obtain⟨a,kind,ay,rfl,_,_,g⟩:=g;have h:kind=("root" : Str):=of_decide_eq_true h;subst h;rcases g.day with⟨_,o,r,rfl⟩|⟨e,_⟩
 ·exact nQ (i:=0) zj rfl
 ·exact absurd rfl e
theorem lj {r:D}(g:fU r ss):bU [r]=some (.str (kindOf r),false):=by
 obtain⟨a,kind,ay,rfl,_⟩:=g;exact gV _ _ _
theorem wS (k:Str)(ws:List Str):Ak (.str k) (ws.map .str)=decide (k∈ws):=by
 induction ws with
 |nil=>simp[Ak]
 |cons w ws ih=>
  have:Ak (.str k) ((w::ws).map .str)=(cE (.str w) (.str k) || Ak (.str k) (ws.map .str)):=rfl;rw[this,ih,oE];by_cases e:w=k
  ·simp[e]
  ·have e':¬k=w:=λz=>e z.symm;simp[e,e']
theorem uf (ws:List Str):(ws.map D.str).all eJ=true:=by
 induction ws with
 |nil=>rfl
 |cons w ws ih=>simp[eJ]
theorem pM (zs:List Str):gH (zs.map .str)=some zs:=by
 induction zs with
 |nil=>rfl
 |cons z zs ih=>simp[ih]
theorem zk (k:Str)(ws:List Str):B3 (.str k) (.lst (ws.map .str))=some (.bl (decide (k∈ws)),false):=by
 simp only[B3,gm,vI,wS];rw[if_pos ⟨rfl,uf ws⟩]
def pN (ak:List D):Prop:=∀r∈ak,∃ss,fU r ss
theorem ra {ak:List D}(g:pN ak)(hl:ak.length<=200):eQ [.tup ak]=some (.lst (((ak.filter bx).map dJ).map .str),true):=by
 have hc:=pA (fi:=iL (aj 0)) (nT:=1) (cap:=[]) (tg:=fM 0) (c:=bD (f2 df (fA bU (aa (aj 0) af)) (fC (.str "root")))) (fe:=fA de (aa (aj 0) (aa (fC (.str "office")) af))) (ρ:=[some (.tup ak,false)]) ak (λx=>x) bx (λx=>.str (dJ x)) (by simp) (by omega) λx hx=>by
  obtain⟨ss,gx⟩:=g x hx;exact⟨_,rfl,aN (b:=false) (aS (x:=.str (kindOf x)) (y:=.str "root") (b1:=false) (b2:=false) (ai (ds:=[x]) (by simp[fj]) (lj gx)) rfl (BV _ _)),λhx=>⟨false,ai (ds:=[x,.str "office"]) (by simp[fj]) (pL gx hx)⟩⟩
 rw[List.map_map];exact aF rfl (aR hc)
def nR (ak:List D)(r:D):Bool:=bx r && decide (dJ r∈(ak.filter bx).map dJ)
theorem ug {ak:List D}{r:D}(g:pN ak)(hl:ak.length<=200)(gr:fU r ss):dA [.tup ak,r]=some (.bl (nR ak r),false):=by
 refine aF rfl (aR (kQ (p:=bx r) (q:=decide (dJ r∈(ak.filter bx).map dJ)) (b1:=false) (aS (x:=.str (kindOf r)) (y:=.str "root") (b1:=false) (b2:=false) (ai (ds:=[r]) rfl (lj gr)) rfl (BV _ _)) λFs=>?_));refine aS (x:=.str (dJ r)) (y:=.lst (((ak.filter bx).map dJ).map .str)) (b1:=false) (b2:=true) (ai (ds:=[r,.str "office"]) rfl (pL gr Fs)) (ai (ds:=[.tup ak]) rfl (ra g hl)) ?_;rw[zk]
theorem pO:∀(ss ts:List Str){x:Str},x∈ss.foldl fB ts->x∈ts∨x∈ss
 |[],ts,x,h=>.inl h
 |y::ss,ts,x,h=>by
  rw[List.foldl_cons]at h;rcases pO ss (fB ts y) h with h|h
  ·rcases kD.mp h with h|h
   ·exact .inl h
   ·exact .inr (h ▸ mX)
  ·exact .inr (mZ _ h)
theorem ll:∀(ss ts:List Str),ts.Nodup->(ss.foldl fB ts).Nodup
 |[],ts,h=>h
 |y::ss,ts,h=>ll ss (fB ts y) (qJ h y)
theorem pP {ss:List Str}{x:Str}(h:x∈dP ss):x∈ss:=by
 rcases pO ss [] h with h|h
 ·cases h
 ·exact h
theorem mK:∀(ss ts:List Str){x:Str},x∈ts∨x∈ss->x∈ss.foldl fB ts
 |[],ts,x,h=>h.elim id λz=>nomatch z
 |y::ss,ts,x,h=>by
  rw[List.foldl_cons];refine mK ss (fB ts y) ?_;rcases h with h|h
  ·exact .inl (kD.mpr (.inl h))
  ·rcases vP h with h|h
   ·exact .inl (kD.mpr (.inr h))
   ·exact .inr h
theorem sJ {ss:List Str}{x:Str}(h:x∈ss):x∈dP ss:=mK ss [] (.inr h)
theorem lm:∀(l m:List Str),l.Nodup->(∀x∈l,x∈m)->l.length<=m.length
 |[],m,_,_=>uN _
 |x::l,m,h,s=>by
  rw[List.nodup_cons]at h;have hx:=s x mX;have:=lm l (m.erase x) h.2 λy hy=>(List.mem_erase_of_ne (a:=y) (b:=x) (λe=>h.1 (by rw[←e];exact hy))).mpr (s y (mZ _ hy));rw[List.length_erase_of_mem hx]at this;have:0<m.length:=List.length_pos_of_mem hx;rw[vD];omega
theorem wT {h:Int}{kind:Str}{ay:List D}{parts:List Str}(hp:iP bW (.str kind)=some (.tup (parts.map .str),false)):dB [row h kind ay]=some (.lst ((parts.zip ay).map λx=>.tup [.str x.1,x.2]),true):=by
 refine aF rfl (aR ?_);have e1:f1 (iP bW) (fA bU (aa (aj 0) af)) [some (row h kind ay,false)]=some (.tup (parts.map .str),false):=sG (x:=.str kind) (b:=false) (ai (ds:=[row h kind ay]) rfl (gV h kind ay)) hp;have e2:iB (f2 cI (aj 0) (fC (.int 1))) (bJ (fC (.int 1))) bP [some (row h kind ay,false)]=some (.tup ay,false):=by simp[row,A3,Em]
 show(((f1 (iP bW) (fA bU (aa (aj 0) af)) [some (row h kind ay,false)]).bind λx=>(iB (f2 cI (aj 0) (fC (.int 1))) (bJ (fC (.int 1))) bP [some (row h kind ay,false)]).bind λy=>(gm x.1).bind λxs=>(gm y.1).map λys=>fz xs ys).map λds=>(D.lst ds,true))=_;rw[e1,e2];simp[pH]
theorem uh {r:D}(g:fU r ss):cB [r]=some (.lst ((iR (dP ss)).map .str),true):=by
 obtain⟨h,kind,ay,rfl,_,_,g⟩:=g;obtain⟨parts,hp,hl,_,hk⟩:=g.parts;have lE:=g.ss2;have Ft:=pA (fi:=iL (fA dB (aa (aj 0) af))) (nT:=2) (cap:=[]) (tg:=CA [0,1]) (c:=dQ (bD (f2 B3 (aj 0) (fC cA))) (bD (f2 nA (aj 1) (fC .non)))) (fe:=aj 1)
  (ρ:=[some (row h kind ay,false),none]) (parts.zip ay) (λx=>.tup [.str x.1,x.2]) (λx=>qY x.1 && there x.2) (·.2) (by
   have e1:fA dB (aa (aj 0) af) [some (row h kind ay,false),none]=_:=ai (ds:=[row h kind ay]) rfl (wT hp);show Option.bind (fA dB (aa (aj 0) af) [some (row h kind ay,false),none]) _=_;rw[e1];rfl) (by
   have:=g.len;rw[List.length_zip];omega) λx hx=>by
   have CV:=(g.flat x.2 (List.of_mem_zip hx).2);refine⟨_,rfl,iV (aN (b:=false) ?_) λ_=>aN (b:=false) ?_,λ_=>⟨false,?_⟩⟩
   ·refine aS (x:=.str x.1) (y:=cA) (b1:=false) (b2:=false) (by simp[fj]) rfl ?_;simp[cA,qY,eJ]
   ·exact aS (x:=x.2) (y:=.non) (b1:=false) (b2:=false) (by simp[fj]) rfl (pK _ CV.2)
   ·simp[fj]
 refine aF rfl (gn (ds:=ss.map .str) ?_ (jJ ss) (aR ?_))
 ·exact hk ▸ Ft
 ·have:ss.length<64:=by omega
  simp[this]
def eW (r:D):List Str:=match cB [r] with
 |some (.lst ds,_)=>(gH ds).getD []
 |_=>[]
theorem ln {r:D}(g:fU r ss):cB [r]=some (.lst ((eW r).map .str),true)/\(eW r).length<=2/\∀s,s∈eW r↔s∈ss:=by
 have h:=uh g;have e:eW r=iR (dP ss):=by unfold eW;rw[h];simp[pM]
 have h2:ss.length<=2:=by obtain⟨_,_,_,_,_,_,d⟩:=g;exact d.ss2
 refine⟨by rw[e];exact h,?_,λs=>?_⟩
 ·rw[e,(eM _).length_eq];exact vR (kE ss) h2
 ·rw[e,(eM _).mem_iff];exact⟨pP,λz=>sJ z⟩
def jL (ak:List D):Nat:=(dP (ak.flatMap eW)).length
theorem wU {ak:List D}(g:pN ak)(hl:ak.length<=200):eT [.tup ak]=some (.int (jL ak),false):=by
 obtain⟨ρ',e,v,rfl,hz⟩:=kL (tg:=fM 2) (g:=gp) (λi ρ=>∃(v:OB),ρ=[some (.tup ak,false),some (.lst (((ak.take i).flatMap eW).map .str),true),v]/\((ak.take i).flatMap eW).length<=2*i) ak
  [some (.tup ak,false),some (.lst [],true),none] ⟨none,rfl,by simp⟩ (by
   rintro i d ρ hd ⟨v,rfl,hz⟩;have hi:=(vV hd).1;obtain⟨ss,gd⟩:=g d (List.mem_of_getElem? hd);obtain⟨hp,lE,_⟩:=ln gd;have hsz:(((ak.take i).flatMap eW).map D.str).length+((eW d).map D.str).length<=sizeLine:=eO (by simp only[vH];omega);have et:(ak.take (i+1)).flatMap eW=(ak.take i).flatMap eW++eW d:=by
    rw[List.take_succ,hd];simp[List.flatMap_append]
   refine⟨_,[some (.tup ak,false),some (.lst (((ak.take (i+1)).flatMap eW).map .str),true),some (d,false)],rfl,.inl ?_,some (d,false),rfl,by rw[et,uZ];omega⟩;have hv:fA cB (aa (aj 2) af) [some (.tup ak,false),some (.lst (((ak.take i).flatMap eW).map .str),true),some (d,false)]=some (.lst ((eW d).map .str),true):=ai (ds:=[d]) rfl hp;show wb 1 (fA cB (aa (aj 2) af)) [some (.tup ak,false),some (.lst (((ak.take i).flatMap eW).map .str),true),some (d,false)]=_;simp only[wb,List.getElem?_cons_succ,List.getElem?_cons_zero,hv,vI];rw[if_pos ⟨trivial,jJ _,hsz⟩,et];simp)
 rw[List.take_length]at hz;refine aF rfl (gn (ds:=[]) (by simp[sizeLine]) rfl (gI (ze (ds:=ak) (by simp[mW]) e) (aR (sG (x:=.lst ((ak.flatMap eW).map .str)) (b:=false) (by simp[mW]) ?_))));have:(ak.flatMap eW).length<4000:=by omega
 simp only[iT,pM,vI,if_pos this];rfl
theorem wV {ak:List D}{i:Nat}{r:D}(h:ak[i]? = some r):md ak (i:Int)=some r:=by
 have fG:i<ak.length:=(vV h).1;rw[eN fG,←h,vU fG]
theorem lp {ak:List D}{i:Nat}{r:D}(hr:ak[i]? = some r)(Ii:i<60)(g:pN (ak.take i))(gr:fU r ss)(hl:ak.length<=200):
  bf [.tup ak,.int i]=some (.bl (nR (ak.take i) r || decide (20<jL (ak.take (i+1)))),false):=by
 have ha:=wV hr;have Gk:∀ρ:DL.Env,ρ[0]? = some (some (.tup ak,false))->ρ[1]? = some (some (.int i,false))->f2 cI (aj 0) (aj 1) ρ=some (r,false):=λρ h0 h1=>by simp[h0,h1,ha]
 have E9:=lg ak (i+1);rw[Int.natCast_add]at E9;have g1:pN (ak.take (i+1)):=λx hx=>by
  rw[List.take_succ,hr]at hx;rcases List.mem_append.mp hx with hx|hx
  ·exact g x hx
  ·simp at hx;subst hx;exact⟨_,gr⟩
 have hn:=wU g1 (by simp;omega);refine aF rfl (aH (cM (p:=false) (q:=false) (aN (b:=false) (by simp[dc];omega)) λ_=>dY (p:=true) (aN (b:=false) (ai (ds:=[r]) (aq (Gk _ rfl rfl) rfl) (zi gr)))) (aR (Az (p:=nR (ak.take i) r) (q:=decide (20<jL (ak.take (i+1)))) (b1:=false) (ai (ds:=[.tup (ak.take i),r]) (aq (d:=.tup (ak.take i)) (b:=false) (by simp[lg]) (aq (Gk _ rfl rfl) rfl)) (ug g (by simp;omega) gr)) λ_=>aS (x:=.int (jL (ak.take (i+1)))) (y:=.int 20) (b1:=false) (b2:=false) (ai (ds:=[.tup (ak.take (i+1))]) (aq (d:=.tup (ak.take (i+1))) (b:=false) (by simp;exact E9) rfl) hn) rfl (by simp;omega))))
theorem pQ {ak:List D}{i:Nat}(h:60<=i):bf [.tup ak,.int i]=some (.bl true,false) :=
 aF rfl (cL (cM (p:=true) (q:=true) (aN (b:=false) (by simp[dc];omega)) (by simp)) (aR rfl))
theorem pR {ak:List D}{i:Nat}{r:D}(hr:ak[i]? = some r)(Ii:i<60)(h:dq [r]=some (.bl false,false)):bf [.tup ak,.int i]=some (.bl true,false):=by
 have ha:=wV hr;have Gk:∀ρ:DL.Env,ρ[0]? = some (some (.tup ak,false))->ρ[1]? = some (some (.int i,false))->f2 cI (aj 0) (aj 1) ρ=some (r,false):=λρ h0 h1=>by simp[h0,h1,ha]
 exact aF rfl (cL (cM (p:=false) (q:=true) (aN (b:=false) (by simp[dc];omega)) λ_=>dY (p:=false) (aN (b:=false) (ai (ds:=[r]) (aq (Gk _ rfl rfl) rfl) h))) (aR rfl))
theorem pS {g:FS}{n k:Nat}{ds:List D}{d:D}{b:Bool}(hl:ds.length=n)(e:g (ds.map (λd=>some (d,false))++List.replicate k none)=some (.rt d b)):j9 g n k ds=some (d,b):=by
 unfold j9;rw[if_pos hl,e]
theorem lq {i n:Nat}(h:i<n):(bA 0 n).drop i=.int i::(bA 0 n).drop (i+1):=by
 have hl:i<(bA 0 n).length:=by simpa [bA]using h
 rw[List.drop_eq_getElem_cons hl];congr 1;simp[bA]
theorem rb {d:D}{ak:List D}{p n:Nat}(hp:p<n)(h0:∀i,i<p->bf [.tup ak,.int i]=some (.bl false,false))(h1:bf [.tup ak,.int p]=some (.bl true,false)):
  ∀(k i:Nat)(v:OB),i+k=p->ge (fM 2) A0 ((bA 0 n).drop i) [some (d,false),some (.tup ak,false),v]=some (.rt (.int p) false):=by
 intro k;induction k with
 |zero=>
  intro i v e;obtain rfl:i=p:=by omega
  rw[lq hp,jl];have:A0 [some (d,false),some (.tup ak,false),some (.int i,false)]=some (.rt (.int i) false):=p9 (aN (b:=false) (ai (ds:=[.tup ak,.int i]) rfl h1)) (aR rfl);show(match A0 [some (d,false),some (.tup ak,false),some (.int i,false)] with|some (.nx ρ')=>_|some (.ct ρ')=>_|some (.bk ρ')=>_|r=>r)=_;rw[this]
 |succ k ih=>
  intro i v e;rw[lq (by omega:i<n),jl];have:A0 [some (d,false),some (.tup ak,false),some (.int i,false)]=some (.nx [some (d,false),some (.tup ak,false),some (.int i,false)]):=zd (aN (b:=false) (ai (ds:=[.tup ak,.int i]) rfl (h0 i (by omega)))) rfl;show(match A0 [some (d,false),some (.tup ak,false),some (.int i,false)] with|some (.nx ρ')=>_|some (.ct ρ')=>_|some (.bk ρ')=>_|r=>r)=_;rw[this];exact ih (i+1) _ (by omega)
theorem En {i:Nat}{f:FE}{h:FS}{ρ:DL.Env}{d:D}{b:Bool}{r:Option Res}(e:f ρ=some (d,b))(k:h (setE ρ i d b)=r):aD (bt i f) h ρ=r:=by
 unfold aD bt;rw[e];exact k
theorem ui {ak:List D}{p:Nat}(hp:p<ak.length)(hl:ak.length<=200)(h0:∀i,i<p->bf [.tup ak,.int i]=some (.bl false,false))(h1:bf [.tup ak,.int p]=some (.bl true,false)){d:D}(hd:d=.lst ak∨d=.tup ak):
  bp [d]=some (.int p,false):=by
 have es:setE [some (d,false),none,none] 1 (.tup ak) false=[some (d,false),some (.tup ak,false),none]:=by
  unfold setE;split
  ·rfl
  ·rfl
 refine pS rfl (aH (dY (p:=true) (aN (b:=false) (ai (ds:=[d,.tup [.ty "list",.ty "tuple"]]) (aq rfl (aq (d:=.tup [.ty "list",.ty "tuple"]) (b:=false) (by simp[sizeLine]) rfl)) ?_))) (En (d:=.tup ak) (b:=false) (ai (ds:=[d]) rfl ?_) ?_))
 ·rcases hd with rfl|rfl<;>simp
 ·rcases hd with rfl|rfl<;>simp
 ·show aD (fN (bB (fA bZ (fV 1 af))) (fM 2) A0) jp (setE [some (d,false),none,none] 1 (.tup ak) false)=_;rw[es];have:=rb (d:=d) hp h0 h1 p 0 none (by omega);rw[List.drop_zero]at this;have e:fN (bB (fA bZ (fV 1 af))) (fM 2) A0 [some (d,false),some (.tup ak,false),none]=some (.rt (.int p) false):=by
   unfold fN;rw[db (j:=ak.length) (b:=false) (by simp) (by omega)];exact this
  unfold aD;rw[e]
theorem wW {d:D}(h:dX [d,.tup [.ty "list",.ty "tuple"]]=some (.bl false,false)):bp [d]=some (.non,false) :=
 pS rfl (cL (dY (p:=false) (aN (b:=false) (ai (ds:=[d,.tup [.ty "list",.ty "tuple"]]) (aq rfl (aq (d:=.tup [.ty "list",.ty "tuple"]) (b:=false) (by simp[sizeLine]) rfl)) h))) (aR rfl))
theorem pT {ak:List D}(hl:ak.length<=60)(h0:∀i,i<ak.length->bf [.tup ak,.int i]=some (.bl false,false))(hf:bi ak=true)(d:D)(hd:d=.lst ak∨d=.tup ak):dG [d]=some (.tup ak,false):=by
 obtain⟨ρ',e,v,rfl⟩:=p8 (tg:=fM 2) (g:=gO) ak.length (λi ρ=>∃v:OB,ρ=[some (d,false),some (.tup ak,false),v])
  [some (d,false),some (.tup ak,false),none] ⟨none,rfl⟩ (by
   rintro i ρ hi ⟨v,rfl⟩;exact⟨_,_,rfl,.inl (zd (aN (b:=false) (ai (ds:=[.tup ak,.int i]) rfl (h0 i hi))) rfl),some (.int i,false),rfl⟩)
 refine aF rfl (aH (dY (p:=true) (aN (b:=false) (ai (ds:=[d,.tup [.ty "list",.ty "tuple"]]) (aq rfl (aq (d:=.tup [.ty "list",.ty "tuple"]) (b:=false) (by simp[sizeLine]) rfl)) ?_))) (fD (d:=.tup ak) (b:=false) (ai (ds:=[d]) rfl ?_) (by simp[hf]) (gI (kO (db (j:=ak.length) (b:=false) (by simp) (by omega)) e) (nP rfl))))
 ·rcases hd with rfl|rfl<;>simp
 ·rcases hd with rfl|rfl<;>simp
theorem wZ {a b:Int}(ha : -18446744073709551616<a/\a<18446744073709551616)(hb : -18446744073709551616<b/\b<18446744073709551616):qB (.int a) (.int b)=some (.int (a*b),false):=by simp[ha,hb]
theorem mL (c:Int)(s m:Nat)(hs:s<=100)(hm:m<=100):∃xs:List Int,eU [.int c,.int s,.int m]=some (.lst (xs.map .int),true)/\xs.length=m/\∀x∈xs,0<=x/\x<2147483647:=by
 let E:List Int->Int->OB->DL.Env:=λxs x v=>[some (.int c,false),some (.int s,false),some (.int m,false),some (.lst (xs.map .int),true),some (.int x,false),v];have MD:=mod_lt (x:=c) (m:=2147483647) (by decide);obtain⟨x0,CW⟩:∃x0,(c % 2147483647*48271+(s:Int)*(s:Int)*69621+11) % 2147483647=x0:=⟨_,rfl⟩;have JZ:=mod_lt (x:=c % 2147483647*48271+(s:Int)*(s:Int)*69621+11) (m:=2147483647) (by decide);rw[CW]at JZ;obtain⟨ρ',e,xs,x,v,rfl,hl,hx,CS⟩:=p8 (tg:=fM 5) (g:=jH) m (λi ρ=>∃xs x v,ρ=E xs x v/\xs.length=i/\(0<=x/\x<2147483647)/\∀y∈xs,0<=y/\y<2147483647) (E [] x0 none) ⟨[],x0,none,rfl,rfl,JZ,by simp⟩ (by
  rintro i ρ hi ⟨xs,x,v,rfl,hl,hx,CS⟩;obtain⟨y,hy⟩:∃y,(x*x+48271*x+(i:Int)+(s:Int)) % 2147483647=y:=⟨_,rfl⟩;have hb:=mod_lt (x:=x*x+48271*x+(i:Int)+(s:Int)) (m:=2147483647) (by decide);rw[hy]at hb;refine⟨E xs x (some (.int i,false)),E (xs++[y]) y (some (.int i,false)),rfl,.inl (fD (d:=.int y) (b:=false) ?_ rfl ?_),_,_,_,rfl,by rw[uZ,List.length_singleton,hl],hb,?_⟩
  ·refine aS (x:=.int (x*x+48271*x+(i:Int)+(s:Int))) (y:=.int 2147483647) (b1:=false) (b2:=false) (aS (x:=.int (x*x+48271*x+(i:Int))) (y:=.int s) (b1:=false) (b2:=false) (aS (x:=.int (x*x+48271*x)) (y:=.int i) (b1:=false) (b2:=false) (aS (x:=.int (x*x)) (y:=.int (48271*x)) (b1:=false) (b2:=false) (aS (x:=.int x) (y:=.int x) (b1:=false) (b2:=false) rfl rfl (wZ (by omega) (by omega))) (aS (x:=.int 48271) (y:=.int x) (b1:=false) (b2:=false) rfl rfl (wZ (by omega) (by omega))) rfl) rfl rfl) rfl rfl) rfl ?_;rw[←hy];rfl
  ·refine(qW (ds:=xs.map .int) (d:=.int y) (b:=false) rfl rfl rfl (gj (by rw[vH];omega))).trans ?_;simp[E]
  ·intro z hz;rcases List.mem_append.mp hz with h|h
   ·exact CS z h
   ·rw[uT h];exact hb)
 refine⟨xs,aF rfl (gn (ds:=[]) rfl rfl (fD (d:=.int x0) (b:=false) ?_ rfl (gI (kO (db (j:=m) (b:=false) rfl (by omega)) e) (nP rfl)))),hl,CS⟩;refine aS (x:=.int (c % 2147483647*48271+(s:Int)*(s:Int)*69621+11)) (y:=.int 2147483647) (b1:=false) (b2:=false) (aS (x:=.int (c % 2147483647*48271+(s:Int)*(s:Int)*69621)) (y:=.int 11) (b1:=false) (b2:=false) (aS (x:=.int (c % 2147483647*48271)) (y:=.int ((s:Int)*(s:Int)*69621)) (b1:=false) (b2:=false) (aS (x:=.int (c % 2147483647)) (y:=.int 48271) (b1:=false) (b2:=false) (aS (x:=.int c) (y:=.int 2147483647) (b1:=false) (b2:=false) rfl rfl rfl) rfl (wZ (by omega) (by omega))) (aS (x:=.int ((s:Int)*(s:Int))) (y:=.int 69621) (b1:=false) (b2:=false) (aS (x:=.int s) (y:=.int s) (b1:=false) (b2:=false) rfl rfl (wZ (by omega) (by omega))) rfl (wZ ?_ (by omega))) rfl) rfl rfl) rfl ?_
 ·have h1:(s:Int)*(s:Int)<=100*100:=Int.mul_le_mul (by omega) (by omega) (by omega) (by omega);have h2:0<=(s:Int)*(s:Int):=Int.mul_nonneg (by omega) (by omega);omega
 ·rw[←CW];rfl
theorem dL (ds:List D)(h:ds.length<=1000):aB ds=some (.tup ds,false):=by unfold aB;rw[if_pos (eO (by omega))]
theorem fF (ds:List D)(h:ds.length<=1000):b9 ds=some (.lst ds,true):=by unfold b9;rw[if_pos (eO (by omega))]
theorem gw (a:Int){m:Int}(h:0<m):bu (.int a) (.int m)=some (.int (a % m),false):=by simp[h]
theorem Eo (a:Int){m:Int}(h:0<m)(h2:m<1073741824):ik (.int a) (.int m)=some (.int (a / m),false):=by simp[h,h2]
def cR (k:Nat):Str:=match aE [.int k] with
 |some (.str z,_)=>z
 |_=>""
theorem xa:(List.range 21).all (λk=>Ay (aE [.int k]) (.str (cR k)) false && pJ (cR k))=true:=by decide +kernel
theorem zm:decide ((List.range 21).map cR).Nodup=true:=by decide +kernel
theorem eY {k:Nat}(h:k<21):aE [.int k]=some (.str (cR k),false)/\pJ (cR k)=true:=by
 have:=uR xa k (List.mem_range.mpr h);rw[vC]at this;exact⟨cw this.1,this.2⟩
def BW:FE:=(f2 bj (f2 bj (f2 cI (fS "abcdefgh") (f2 bu (aj 0) (fI 8))) (f2 cI (fS "abcdefgh") (f2 ik (aj 0) (fI 8)))) (fS "r"))
def dM (k:Nat):Str:=match BW [some (.int k,false)] with
 |some (.str z,_)=>z
 |_=>""
theorem pU:(List.range 42).all (λk=>Ay (BW [some (.int k,false)]) (.str (dM k)) false && pJ (dM k))=true:=by decide +kernel
theorem zn:decide ((List.range 42).map dM).Nodup=true:=by decide +kernel
theorem BX {k:Nat}(h:k<42){ρ:DL.Env}{i:Nat}{b:Bool}(e:ρ[i]? = some (some (.int k,b))):f2 bj (f2 bj (f2 cI (fS "abcdefgh") (f2 bu (aj i) (fI 8))) (f2 cI (fS "abcdefgh") (f2 ik (aj i) (fI 8)))) (fS "r") ρ=some (.str (dM k),false):=by
 have:=uR pU k (List.mem_range.mpr h);rw[vC]at this;have e1:=cw this.1;unfold BW at e1;rw[←e1];simp[e]
theorem xc {k:Nat}(h:k<42):pJ (dM k)=true:=by
 have:=uR pU k (List.mem_range.mpr h);rw[vC]at this;exact this.2
theorem nU {j k:Nat}(hj:j<42)(hk:k<42)(e:dM j=dM k):j=k:=by
 have nd:=of_decide_eq_true zn;have h1:((List.range 42).map dM)[j]? = some (dM j):=by rw[vA,List.getElem?_range hj];rfl
 have h2:((List.range 42).map dM)[k]? = some (dM j):=by rw[vA,List.getElem?_range hk,e];rfl
 exact iD nd h1 h2
theorem pV {h m f:Int}{o r:Str}(h0:0<=h)(h1:h<=9999)(ho:pJ o=true)(hm:1<=m/\m<=255)(hf:0<=f/\f<=9)(hr:bT [.str "rule",.str r]=some (.bl true,false)):fU (row h ("root" : Str) [.str o,.int m,.int f,.str r]) []:=by
 refine⟨h,_,_,rfl,h0,h1,⟨[("office" : Str),("matters" : Str),("further" : Str),("rule" : Str)],cw (by decide +kernel),rfl,?_,rfl⟩,by simp,by simp,?_,.inl ⟨rfl,_,_,rfl⟩⟩
 ·intro x hx;simp only[List.zip_cons_cons,List.zip_nil_right,List.mem_cons,List.not_mem_nil,or_false]at hx;rcases hx with rfl|rfl|rfl|rfl
  ·exact jd (p:=("office" : Str)) (by decide +kernel) (by decide +kernel) (gQ ho)
  ·exact i6 (gR hm.1 hm.2)
  ·exact li hf.1 hf.2
  ·exact hr
 ·intro d hd;simp only[List.mem_cons,List.not_mem_nil,or_false]at hd;rcases hd with rfl|rfl|rfl|rfl<;>exact⟨rfl,rfl⟩
theorem jx {h d:Int}{p:Str}(h0:0<=d)(h1:d<=h)(h2:h<=9999)(hp:pJ p=true):fU (row h ("death" : Str) [.int d,.str p]) [p]:=by
 refine⟨h,_,_,rfl,by omega,h2,⟨[("day" : Str),("person" : Str)],cw (by decide +kernel),rfl,?_,rfl⟩,by simp,by simp,?_,.inr ⟨by decide +kernel,⟨d,_,rfl,h1,h0,λz=>absurd z (by decide +kernel)⟩,cw (by decide +kernel)⟩⟩
 ·intro x hx;simp only[List.zip_cons_cons,List.zip_nil_right,List.mem_cons,List.not_mem_nil,or_false]at hx;rcases hx with rfl|rfl
  ·exact qX (p:=("day" : Str)) (by decide +kernel) (jc h0 (by omega))
  ·exact jd (p:=("person" : Str)) (by decide +kernel) (by decide +kernel) (gQ hp)
 ·intro x hd;simp only[List.mem_cons,List.not_mem_nil,or_false]at hd;rcases hd with rfl|rfl<;>exact⟨rfl,rfl⟩
noncomputable def pW:List Str:=(List.range 20).map cR
structure Fine (ak:List D):Prop where
 good:pN ak
 nd:((ak.filter bx).map dJ).Nodup
 nm:∀r∈ak,∀s∈eW r,s∈pW
theorem Fine.sub {a b:List D}(F:Fine b)(h:a.Sublist b):Fine a :=
 ⟨λr hr=>F.good r (h.subset hr),F.nd.sublist ((h.filter _).map _),λr hr=>F.nm r (h.subset hr)⟩
theorem Fine.app {a b:List D}(F:Fine a)(G:Fine b)(h:∀x∈a,∀y∈b,bx x=true->bx y=true->dJ x≠dJ y):Fine (a++b):=by
 refine⟨λr hr=>(List.mem_append.mp hr).elim (F.good r) (G.good r),?_,λr hr=>(List.mem_append.mp hr).elim (F.nm r) (G.nm r)⟩;rw[List.filter_append,List.map_append];refine List.nodup_append.mpr ⟨F.nd,G.nd,λx hx y hy=>?_⟩;obtain⟨u,hu,rfl⟩:=vO hx;obtain⟨v,hv,rfl⟩:=vO hy;obtain⟨u1,u2⟩:=List.mem_filter.mp hu;obtain⟨v1,v2⟩:=List.mem_filter.mp hv;exact h u u1 v v1 u2 v2
theorem Fine.noRoot {a:List D}(g:pN a)(h:∀x∈a,bx x=false)(n:∀r∈a,∀s∈eW r,s∈pW):Fine a:=by
 refine⟨g,?_,n⟩;have:a.filter bx=[]:=List.filter_eq_nil_iff.mpr λx hx=>by rw[h x hx];decide
 rw[this];exact List.nodup_nil
theorem xf {ak:List D}(F:Fine ak):jL ak<=20:=by
 have:=lm (dP (ak.flatMap eW)) pW (ll _ [] List.nodup_nil) λx hx=>by
  obtain⟨r,hr,hs⟩:=List.mem_flatMap.mp (pP hx);exact F.nm r hr x hs
 exact this
theorem uj {ak:List D}(F:Fine ak){i:Nat}{r:D}(hr:ak[i]? = some r):nR (ak.take i) r=false:=by
 have hi:=(vV hr).1;have e:ak=ak.take i++r::ak.drop (i+1):=by
  have:=List.take_append_drop i ak;rw[List.drop_eq_getElem_cons hi]at this;have er:ak[i]=r:=(vV hr).2;rw[er]at this;exact this.symm
 unfold nR;cases h:bx r with
 |false=>rfl
 |true=>
  rw[Bool.true_and];refine decide_eq_false λzK=>?_;have nd:=F.nd;rw[e,List.filter_append,List.filter_cons_of_pos h,List.map_append,List.map_cons]at nd;exact(List.nodup_append.mp nd).2.2 _ zK _ mX rfl
theorem sK {pre post:List D}(F:Fine pre)(hp:pre.length<=60)(hl:(pre++post).length<=200){i:Nat}(hi:i<pre.length):bf [.tup (pre++post),.int i]=some (.bl false,false):=by
 obtain⟨r,hr⟩:∃r,pre[i]? = some r:=⟨_,vU hi⟩;have HY:(pre++post)[i]? = some r:=by rw[List.getElem?_append_left hi];exact hr
 have ht:∀j,j<=pre.length->(pre++post).take j=pre.take j:=λj hj=>List.take_append_of_le_length hj;obtain⟨ss,gr⟩:=F.good r (List.mem_of_getElem? hr);rw[lp HY (by omega) (by rw[ht i (by omega)];exact λx hx=>F.good x (List.mem_of_mem_take hx)) gr hl,ht i (by omega),ht (i+1) (by omega),uj F hr,decide_eq_false (by have:=xf (F.sub (List.take_sublist (i+1) pre));omega)];rfl
theorem BY {pre post:List D}{r:D}(F:Fine pre)(hp:pre.length<=60)(hl:(pre++r::post).length<=200)
  (h:pre.length=60∨dq [r]=some (.bl false,false)∨∃ss,fU r ss/\(nR pre r=true∨20<jL (pre++[r]))) {d:D}(hd:d=.lst (pre++r::post)∨d=.tup (pre++r::post)):bp [d]=some (.int pre.length,false):=by
 have hr:(pre++r::post)[pre.length]? = some r:=by rw[List.getElem?_append_right (vT _)];simp
 refine ui (by simp) hl (λi hi=>sK F hp hl hi) ?_ hd;by_cases Ii:pre.length=60
 ·exact pQ (by omega)
 rcases h with h|h|⟨ss,gr,h⟩
 ·exact absurd h Ii
 ·exact pR hr (by omega) h
 ·have t1:(pre++r::post).take pre.length=pre:=by simp
  have t2:(pre++r::post).take (pre.length+1)=pre++[r]:=by rw[List.take_length_add_append];rfl
  rw[lp hr (by omega) (by rw[t1];exact F.good) gr hl,t1,t2];rcases h with h|h
  ·rw[h];rfl
  ·rw[decide_eq_true h,Bool.or_true]
theorem xg {ak:List D}(F:Fine ak)(hl:ak.length<=60)(hf:bi ak=true){d:D}(hd:d=.lst ak∨d=.tup ak):dG [d]=some (.tup ak,false) :=
 pT hl (λi hi=>by have:=sK (post:=[]) F hl (by simp;omega) hi;rwa [uQ]at this) hf d hd
theorem uk {f g:FE}{ρ:DL.Env}{i j:Int}{b1 b2:Bool}(e1:f ρ=some (.int i,b1))(e2:g ρ=some (.int j,b2))(hc : -1000<=i/\i<=1000/\-1000<=j/\j<=1000):jY f g ρ=some (bA i (j - i).toNat):=by
 simp only[jY,e1,e2,vI];exact if_pos hc
theorem IM {xs:List Int}{j:Nat}{x:Int}(h:xs[j]? = some x):md (xs.map D.int) (j:Int)=some (.int x):=by
 have hl:j<(xs.map D.int).length:=by rw[vH];exact(vV h).1
 rw[eN hl,List.getElem_map,(vV h).2]
theorem xh {ρ:DL.Env}{i j:Nat}{xs:List Int}{x:Int}{b:Bool}(e:ρ[i]? = some (some (.lst (xs.map .int),b)))(h:xs[j]? = some x):f2 cI (aj i) (fI j) ρ=some (.int x,false):=by
 have:=IM h;simp[e,this]
def Dr (k:Nat)(r:D):Prop:=(∃h:Int,0<=h/\h<=9999/\r=row h ("root" : Str) [.str (dM k),.int 7,.int 2,.str "last"])∨∃(d:Int)(p:Nat),0<=d/\d<=9999/\p<20/\r=row 9999 ("death" : Str) [.int d,.str (cR p)]
theorem ul:bT [.str "rule",.str "last"]=some (.bl true,false):=cw (by decide +kernel)
theorem um:bT [.str "rule",.str "open"]=some (.bl true,false):=cw (by decide +kernel)
theorem Dr.good {k:Nat}{r:D}(hk:k<42)(g:Dr k r):∃ss,fU r ss/\∀s∈ss,s∈pW:=by
 rcases g with⟨h,h0,h1,rfl⟩|⟨d,p,h0,h1,hp,rfl⟩
 ·exact⟨[],pV h0 h1 (xc hk) (by decide) (by decide) ul,by simp⟩
 ·refine⟨[cR p],jx h0 h1 (by decide) (eY (by omega)).2,λs hs=>?_⟩;rw[uT hs];exact List.mem_map.mpr ⟨p,List.mem_range.mpr hp,rfl⟩
theorem Dr.off {k:Nat}{r:D}(g:Dr k r)(h:bx r=true):dJ r=dM k:=by
 rcases g with⟨h,h0,h1,rfl⟩|⟨d,p,h0,h1,hp,rfl⟩
 ·rfl
 ·exact absurd h (by show ¬(decide (("death" : Str)=("root" : Str))=true);decide +kernel)
def lQ (L:List D):Prop:=L.length<=40/\∀j r,L[j]? = some r->Dr (j+2) r
theorem lQ.fine {L:List D}(g:lQ L):Fine L:=by
 have at':∀r∈L,∃j,j<L.length/\L[j]? = some r/\Dr (j+2) r:=λr hr=>by
  obtain⟨j,hj⟩:=List.mem_iff_getElem?.mp hr;exact⟨j,(vV hj).1,hj,g.2 j r hj⟩
 have hl:=g.1;refine⟨λr hr=>?_,?_,λr hr s hs=>?_⟩
 ·obtain⟨j,h1,_,h2⟩:=at' r hr;obtain⟨ss,gs,_⟩:=h2.good (by omega);exact⟨ss,gs⟩
 ·refine List.pairwise_map.mpr (List.pairwise_filter.mpr (List.pairwise_iff_getElem.mpr λi j hi hj hij a b e=>?_));have h1:=g.2 i _ (vU hi);have h2:=g.2 j _ (vU hj);rw[h1.off a,h2.off b]at e;have:=nU (by omega) (by omega) e;omega
 ·obtain⟨j,h1,_,h2⟩:=at' r hr;obtain⟨ss,gs,hn⟩:=h2.good (by omega);exact hn s (((ln gs).2.2 s).mp hs)
theorem Dr.flat {k:Nat}{r:D}(g:Dr k r):bw r=true:=by
 rcases g with⟨h,h0,h1,rfl⟩|⟨d,p,h0,h1,hp,rfl⟩<;>simp[row]
theorem zo (ns:List Int)(EN:ns.length<=63):∃L,kY [.lst (ns.map .int),.int 40]=some (.lst L,true)/\lQ L:=by
 let n:Nat:=(min ns.length 42) - 2;let E:List D->OB->OB->DL.Env:=λL x y=>[some (.lst (ns.map .int),false),some (.int 40,false),some (.lst L,true),x,y];obtain⟨ρ',e,L,x,y,rfl,hl,hd⟩:=kL (tg:=fM 3) (g:=mJ) (λi ρ=>∃L x y,ρ=E L x y/\L.length=i/\∀j r,L[j]? = some r->Dr (j+2) r) (bA 2 n) (E [] none none) ⟨[],none,none,rfl,rfl,by simp⟩ (by
  rintro i d ρ hd ⟨L,x,y,rfl,hl,hL⟩;unfold bA at hd;rw[vA]at hd;obtain⟨k,hk,hd⟩:=oY hd;obtain⟨fG,hk⟩:=vV hk;rw[List.getElem_range]at hk;subst hk;subst hd;rw[List.length_range]at fG;have hi:i+2<ns.length/\i+2<42:=by show i+2<_/\_;have:i<min ns.length 42 - 2:=fG;omega
  obtain⟨c,hc⟩:∃c,ns[i+2]? = some c:=⟨_,vU hi.1⟩;obtain⟨xs,ex,Mk,hx⟩:=mL c (i+2) 3 (by omega) (by decide);obtain⟨x0,CW⟩:∃z,xs[0]? = some z:=⟨_,vU (by omega)⟩;obtain⟨x1,Gm⟩:∃z,xs[1]? = some z:=⟨_,vU (by omega)⟩;obtain⟨x2,CV⟩:∃z,xs[2]? = some z:=⟨_,vU (by omega)⟩;have e2:(2:Int)+(i:Int)=((i+2:Nat):Int):=by omega
  rw[e2];have Ij:=mod_lt (x:=x1) (m:=10000) (by decide);have Ml:=mod_lt (x:=x2) (m:=20) (by decide);obtain⟨p,hp⟩:∃p:Nat,x2 % 20=(p:Int):=⟨(x2 % 20).toNat,by omega⟩;have Ik:p<20:=by omega
  let E1:=E L (some (.int ((i+2:Nat):Int),false)) (some (.lst (xs.map .int),true));have i0:f2 cI (aj 4) (fI 0) E1=some (.int x0,false):=xh (i:=4) (j:=0) (xs:=xs) (b:=true) rfl CW;have i1:f2 cI (aj 4) (fI 1) E1=some (.int x1,false):=xh (i:=4) (j:=1) (xs:=xs) (b:=true) rfl Gm;have i2:f2 cI (aj 4) (fI 2) E1=some (.int x2,false):=xh (i:=4) (j:=2) (xs:=xs) (b:=true) rfl CV;have fs:fA eU (aa (f2 cI (aj 0) (aj 3)) (fV 3 (aa (fI 3) af))) (E L (some (.int ((i+2:Nat):Int),false)) y)=some (.lst (xs.map .int),true):=by
   refine ai (ds:=[.int c,.int ((i+2:Nat):Int),.int 3]) (aq (b:=false) ?_ rfl) ex;have:=IM hc;simp only[f2,aj,E,List.getElem?_cons_zero,List.getElem?_cons_succ,vI,cI,this,Option.map_some]
  obtain⟨r,dr,hr⟩:∃r,Dr (i+2) r/\di (bD (f2 df (f2 bu (cH 4 0) (fI 3)) (fI 0))) (ni 2 (fA aB (aa (f2 bu (cH 4 1) (fI 10000)) (aa (fA aB (aa (fS "root") (aa (f2 bj (f2 bj (f2 cI (fS "abcdefgh") (f2 bu (aj 3) (fI 8))) (f2 cI (fS "abcdefgh") (f2 ik (aj 3) (fI 8)))) (fS "r")) (aa (fI 7) (aa (fI 2) (aa (fS "last") af)))))) af)))) (ni 2 (fA aB (aa (fI 9999) (aa (fA aB (aa (fS "death") (aa (f2 bu (cH 4 1) (fI 10000)) (aa (fA aE (aa (f2 bu (cH 4 2) (fI 20)) af)) af)))) af)))) E1=some (.nx (E (L++[r]) (some (.int ((i+2:Nat):Int),false)) (some (.lst (xs.map .int),true)))):=by
   have t0:bD (f2 df (f2 bu (cH 4 0) (fI 3)) (fI 0)) E1=some (decide (x0 % 3=0)):=aN (b:=false) (aS (x:=.int (x0 % 3)) (y:=.int 0) (b1:=false) (b2:=false) (aS (x:=.int x0) (y:=.int 3) (b1:=false) (b2:=false) i0 rfl (gw _ (by decide))) rfl (by simp));have m1:f2 bu (cH 4 1) (fI 10000) E1=some (.int (x1 % 10000),false):=aS (x:=.int x1) (y:=.int 10000) (b1:=false) (b2:=false) i1 rfl (gw _ (by decide));by_cases h3:x0 % 3=0
   ·refine⟨row (x1 % 10000) ("root" : Str) [.str (dM (i+2)),.int 7,.int 2,.str "last"],.inl ⟨_,Ij.1,by omega,rfl⟩,p9 (t0.trans (by rw[decide_eq_true h3])) ?_⟩;refine(qW (ds:=L) (b:=false) rfl (ai (ds:=[.int (x1 % 10000),.tup [.str "root",.str (dM (i+2)),.int 7,.int 2,.str "last"]]) (aq m1 (aq (b:=false) (ai (ds:=[.str "root",.str (dM (i+2)),.int 7,.int 2,.str "last"]) (aq (b:=false) rfl (aq (b:=false) (BX (k:=i+2) (i:=3) (b:=false) hi.2 rfl) rfl)) (dL _ (by simp))) rfl)) (dL _ (by simp))) rfl (gj (by omega))).trans ?_;rfl
   ·refine⟨row 9999 ("death" : Str) [.int (x1 % 10000),.str (cR p)],.inr ⟨_,p,Ij.1,by omega,Ik,rfl⟩,zd (t0.trans (by rw[decide_eq_false h3])) ?_⟩;refine(qW (ds:=L) (b:=false) rfl (ai (ds:=[.int 9999,.tup [.str "death",.int (x1 % 10000),.str (cR p)]]) (aq (b:=false) rfl (aq (b:=false) (ai (ds:=[.str "death",.int (x1 % 10000),.str (cR p)]) (aq (b:=false) rfl (aq m1 (aq (b:=false) (ai (ds:=[.int p]) (aq (b:=false) (aS (x:=.int x2) (y:=.int 20) (b1:=false) (b2:=false) i2 rfl (by rw[gw _ (by decide),hp])) rfl) (eY (by omega)).1) rfl))) (dL _ (by simp))) rfl)) (dL _ (by simp))) rfl (gj (by omega))).trans ?_;rfl
  refine⟨_,E (L++[r]) (some (.int ((i+2:Nat):Int),false)) (some (.lst (xs.map .int),true)),rfl,.inl (gn (ds:=xs.map .int) fs (by induction xs<;>simp_all) hr),L++[r],_,_,rfl,by simp[hl],λj q hq=>?_⟩
  by_cases hj:j<L.length
  ·rw[List.getElem?_append_left hj]at hq;exact hL j q hq
  ·rw[List.getElem?_append_right (by omega)]at hq;have:j - L.length=0:=by
    rcases Nat.eq_zero_or_pos (j - L.length)with z|z
    ·exact z
    ·rw[List.getElem?_eq_none (by simp;omega)]at hq;cases hq
   rw[this]at hq;simp at hq;rw[show j=i by omega,←hq];exact dr)
 have hr:(bA 2 n).length=n:=by simp[bA]
 rw[hr]at hl;refine⟨L,aF rfl (gn (ds:=[]) (by simp[sizeLine]) rfl (gI (kO (ds:=bA 2 n) ?_ e) (nP rfl))),by omega,hd⟩;have Il:∀ρ:DL.Env,ρ[0]? = some (some (.lst (ns.map .int),false))->ρ[1]? = some (some (.int 40,false))->fA yE (aa (fA bZ (fV 0 af)) (aa (f2 bj (fI 2) (aj 1)) af)) ρ=some (.int (min ns.length 42:Nat),false):=λρ h0 h1=>by
  simp[h0,h1];omega
 rw[uk (i:=2) (j:=((min ns.length 42:Nat):Int)) (b1:=false) (b2:=false) rfl (Il _ rfl rfl) (by omega)];congr 2;show _=min ns.length 42 - 2;omega
theorem xi (l:List D)(a:Nat):jP l (some (a:Int)) none=l.drop a:=by
 unfold jP;rw[HT.rF,HT.oy];by_cases h:a<=l.length
 ·rw[Nat.min_eq_left h,List.take_of_length_le (by simp)]
 ·rw[Nat.min_eq_right (by omega),List.drop_eq_nil_of_le (vT _),List.drop_eq_nil_of_le (by omega)];simp
theorem pX {a b:List D}(h:a.length+b.length<=1000):bj (.lst a) (.lst b)=some (.lst (a++b),true):=by
 simp only[bj];exact if_pos (eO (by omega))
theorem FI {fa fh:FE}{ρ:DL.Env}{l:List D}{n:Nat}{b b2:Bool}(e:fa ρ=some (.lst l,b))(h:fh ρ=some (.int n,b2)):iB fa bP (bJ fh) ρ=some (.lst (l.take n),true):=by
 have:=lg l n;simp[e,h,this]
theorem Hb {fa fh:FE}{ρ:DL.Env}{l:List D}{n:Nat}{b b2:Bool}(e:fa ρ=some (.lst l,b))(h:fh ρ=some (.int n,b2)):iB fa (bJ fh) bP ρ=some (.lst (l.drop n),true):=by
 have:=xi l n;simp[e,h,this]
noncomputable def ka:List D:=[.non,.int 7,.bl true,.str "death",.lst [.int 9,.tup [.str "death",.int 3,.str "a"]],.tup [.str "death",.int 3,.str "a"],.tup [.int 3,.tup [.str "death",.int 4,.str "a"]],.tup []]
noncomputable def nW:List D:=[.tup [.int 9999,.tup [.str "death",.int 10000,.str "a"]],.tup [.int 9,.tup [.str "root",.str "office",.int 256,.int 1,.str "open"]],.tup [.int 9,.tup [.str "call",.int 3,.str "a",.int 60]]]
noncomputable def sL:List D:=[.tup [.int 9,.tup [.str "root",.str "office",.int 1,.int 10,.str "open"]],.tup [.int 9,.tup [.str "copy",.int 3,.str "A",.int 1]],.tup [.int 9,.lst [.str "death",.int 3,.str "a"]]]
noncomputable def zp:List D:=[.tup [.int 9,.tup [.str "died",.int 3,.str "a"]],.tup [.int 9,.tup [.str "leave",.int 3,.str "a",.str "b",.int 1,.tup [.int 4,.int 4],.int 0]],.tup [.int 10000,.tup [.str "death",.int 3,.str "a"]]]
def i7:List D:=ka++nW++sL++zp
theorem zq:i7.all (λr=>Ay (dq [r]) (.bl false) false)=true:=by decide +kernel
theorem mM (x:Int):∃r,dC [.int x]=some (r,false)/\dq [r]=some (.bl false,false):=by
 have hm:=mod_lt (x:=x) (m:=17) (by decide);obtain⟨j,hj⟩:∃j:Nat,x % 17=(j:Int):=⟨(x % 17).toNat,by omega⟩;have ME:i7.length=17:=by decide +kernel
 have hl:j<i7.length:=by omega
 have hr:=uR zq i7[j] (List.getElem_mem hl);refine⟨i7[j],?_,cw hr⟩;refine aF rfl (m9 (d:=.lst ka) (b:=true) rfl (m9 (d:=.lst (ka++nW)) (b:=true) rfl (m9 (d:=.lst (ka++nW++sL)) (b:=true) rfl (m9 (d:=.lst i7) (b:=true) rfl (aR (aS (x:=.lst i7) (y:=.int (x % 17)) (b1:=false) (b2:=false) rfl (aS (x:=.int x) (y:=.int 17) (b1:=false) (b2:=false) rfl rfl (gw _ (by decide))) ?_))))));rw[hj];simp only[cI];rw[eN hl];rfl
def zr (k:Nat):D:=row 9999 ("death" : Str) [.int 1,.str (cR k)]
theorem nX {k:Nat}(h:k<20):fU (zr k) [cR k]:=jx (by decide) (by decide) (by decide) (eY (by omega)).2
theorem lr (k:Nat):bx (zr k)=false:=by show decide (("death" : Str)=("root" : Str))=false;decide +kernel
theorem Ep {k:Nat}(h:k<20):cR k∈pW:=List.mem_map.mpr ⟨k,List.mem_range.mpr h,rfl⟩
noncomputable def du:List D:=(List.range 20).map zr
theorem re {l:List D}(h:∀x∈l,x∈du):Fine l:=by
 have at':∀x∈l,∃k,k<20/\x=zr k:=λx hx=>by
  obtain⟨k,hk,rfl⟩:=vO (h x hx);exact⟨k,List.mem_range.mp hk,rfl⟩
 refine Fine.noRoot (λx hx=>?_) (λx hx=>?_) λx hx s hs=>?_
 ·obtain⟨k,hk,rfl⟩:=at' x hx;exact⟨_,nX hk⟩
 ·obtain⟨k,hk,rfl⟩:=at' x hx;exact lr k
 ·obtain⟨k,hk,rfl⟩:=at' x hx;have:=((ln (nX hk)).2.2 s).mp hs;rw[uT this];exact Ep hk
theorem uo {q:Nat}(hq:q<20):fU (row 9 ("leave" : Str) [.int 5,.str (cR 20),.str (cR q),.int 1,.tup [.int 0,.non],.int 0]) [cR 20,cR q]:=by
 refine⟨9,_,_,rfl,by decide,by decide,⟨[("day" : Str),("by" : Str),("person" : Str),("matters" : Str),("stretch" : Str),("further" : Str)],cw (by decide +kernel),rfl,?_,rfl⟩,by simp,by simp,?_,.inr ⟨by decide +kernel,⟨5,_,rfl,by decide,by decide,λz=>absurd z (by decide +kernel)⟩,cw (by decide +kernel)⟩⟩
 ·intro x hx;simp only[List.zip_cons_cons,List.zip_nil_right,List.mem_cons,List.not_mem_nil,or_false]at hx;rcases hx with rfl|rfl|rfl|rfl|rfl|rfl
  ·exact qX (p:=("day" : Str)) (by decide +kernel) (jc (by decide) (by decide))
  ·exact jd (p:=("by" : Str)) (by decide +kernel) (by decide +kernel) (gQ (eY (by decide)).2)
  ·exact jd (p:=("person" : Str)) (by decide +kernel) (by decide +kernel) (gQ (eY (by omega)).2)
  ·exact i6 (gR (by decide) (by decide))
  ·exact lh (jK (by decide) (by decide))
  ·exact li (by decide) (by decide)
 ·intro d hd;simp only[List.mem_cons,List.not_mem_nil,or_false]at hd;rcases hd with rfl|rfl|rfl|rfl|rfl|rfl<;>exact⟨rfl,rfl⟩
theorem up {q:Nat}(hq:q<20):fU (row 9 ("paper" : Str) [.int 5,.str (cR q),.int 1,.tup [.int 0,.non],.str (cR 20),.tup [.str "a"]]) [cR q,cR 20]:=by
 refine⟨9,_,_,rfl,by decide,by decide,⟨[("day" : Str),("by" : Str),("matters" : Str),("stretch" : Str),("whom" : Str),("pieces" : Str)],cw (by decide +kernel),rfl,?_,rfl⟩,by simp,by simp,?_,.inr ⟨by decide +kernel,⟨5,_,rfl,by decide,by decide,λz=>absurd z (by decide +kernel)⟩,cw (by decide +kernel)⟩⟩
 ·intro x hx;simp only[List.zip_cons_cons,List.zip_nil_right,List.mem_cons,List.not_mem_nil,or_false]at hx;rcases hx with rfl|rfl|rfl|rfl|rfl|rfl
  ·exact qX (p:=("day" : Str)) (by decide +kernel) (jc (by decide) (by decide))
  ·exact jd (p:=("by" : Str)) (by decide +kernel) (by decide +kernel) (gQ (eY (by omega)).2)
  ·exact i6 (gR (by decide) (by decide))
  ·exact lh (jK (by decide) (by decide))
  ·exact cw (by decide +kernel)
  ·exact cw (by decide +kernel)
 ·intro d hd;simp only[List.mem_cons,List.not_mem_nil,or_false]at hd;rcases hd with rfl|rfl|rfl|rfl|rfl|rfl<;>exact⟨rfl,rfl⟩
theorem rg {pre:List D}{r:D}{ss:List Str}(hf:∀k,k<20->zr k∈pre)(gr:fU r ss)(h:cR 20∈ss):20<jL (pre++[r]):=by
 have nd:=of_decide_eq_true zm;have:=lm ((List.range 21).map cR) (dP ((pre++[r]).flatMap eW)) nd λx hx=>by
  obtain⟨k,hk,rfl⟩:=vO hx;have hk:=List.mem_range.mp hk;refine sJ (List.mem_flatMap.mpr ?_);by_cases Fu:k<20
  ·exact⟨zr k,List.mem_append_left _ (hf k Fu),((ln (nX Fu)).2.2 _).mpr (by simp)⟩
  ·rw[show k=20 by omega];exact⟨r,mY _ (by simp),((ln gr).2.2 _).mpr h⟩
 rw[vH,List.length_range]at this;exact this
theorem xj {L:List D}(g:pN L)(hl:L.length<=200){ρ:DL.Env}{b:Bool}(e:ρ[0]? = some (some (.lst L,b))):bN (iL (aj 0)) 1 [] (fM 0) (bD (f2 df (f2 cI (cH 0 1) (fI 0)) (fS "root"))) (aj 0) ρ=some (.lst (L.filter bx),true):=by
 have:=pA (fi:=iL (aj 0)) (nT:=1) (cap:=[]) (tg:=fM 0) (c:=bD (f2 df (f2 cI (cH 0 1) (fI 0)) (fS "root"))) (fe:=aj 0) (ρ:=ρ) L (λx=>x) bx (λx=>x) (by simp[e]) (by omega) λx hx=>by
  obtain⟨ss,h,kind,ay,rfl,_⟩:=g x hx;refine⟨_,rfl,aN (b:=false) (aS (x:=.str kind) (y:=.str "root") (b1:=false) (b2:=false) ?_ rfl (BV _ _)),λ_=>⟨false,by simp[fj]⟩⟩;simp[fj,row,A2,A3]
 simpa using this
theorem ls {l:List D}(h:∀x∈l,bw x=true):bi l=true:=eV h
theorem lQ.flat {L:List D}(g:lQ L):∀x∈L,bw x=true:=λx hx=>by
 obtain⟨j,hj⟩:=List.mem_iff_getElem?.mp hx;exact(g.2 j x hj).flat
theorem lu {l:List D}(h:∀x∈l,x∈du):∀x∈l,bw x=true:=λx hx=>by
 obtain⟨k,_,rfl⟩:=vO (h x hx);rfl
structure Rf (ak:List D)(p:Nat):Prop where
 ex:∃pre r post,ak=pre++r::post/\p=pre.length/\Fine pre/\pre.length<=60/\(pre.length=60∨dq [r]=some (.bl false,false)∨∃ss,fU r ss/\(nR pre r=true∨20<jL (pre++[r])))
 len:ak.length<=62
theorem pY:aE [.int 20]=some (.str (cR 20),false):=(eY (by decide)).1
theorem rh {L:List D}{xs:List Int}{x1 x2 x3:Int}(g:lQ L)(h1:xs[1]? = some x1)(h2:xs[2]? = some x2)(h3:xs[3]? = some x3):
  ∃ak p,dI [.lst L,.lst (xs.map .int)]=some (.lst [.lst ak,.int ((p:Nat):Int)],true)/\Rf ak p:=by
 have hL:=g.1;have Ml:=mod_lt (x:=x2) (m:=20) (by decide);obtain⟨q,hq⟩:∃q:Nat,x2 % 20=(q:Int):=⟨(x2 % 20).toNat,by omega⟩;have Fv:q<20:=by omega
 let S:List D:=(L.filter bx).take 20;have hS:S.length<=20:=by simp[S];omega
 have Ka:S.Sublist L:=(List.take_sublist _ _).trans List.filter_sublist;have MF:=mod_lt (x:=x3) (m:=((S.length:Int)+1)) (by omega);obtain⟨a,ha⟩:∃a:Nat,x3 % ((S.length:Int)+1)=(a:Int):=⟨(x3 % ((S.length:Int)+1)).toNat,by omega⟩;have MG:a<=S.length:=by omega
 let fd:List D:=du.drop q++du.take q;have Im:∀x∈fd,x∈du:=λx hx=>(List.mem_append.mp hx).elim List.mem_of_mem_drop List.mem_of_mem_take;have Fu:du.length=20:=by simp[du]
 have qf:fd.length=20:=by simp[fd,Fu];omega
 have zK:∀k,k<20->zr k∈fd:=λk hk=>by
  have:zr k∈du:=List.mem_map.mpr ⟨k,List.mem_range.mpr hk,rfl⟩;rw[←List.take_append_drop q du]at this;rcases List.mem_append.mp this with h|h
  ·exact mY _ h
  ·exact List.mem_append_left _ h
 have key:∀(lst:D)(ss:List Str),bw lst=true->fU (.tup [.int 9,lst]) ss->cR 20∈ss ->
   (∀ {h:FS}{r:Option Res},h [some (.lst L,false),some (.lst (xs.map .int),false),some (.lst du,true),some (lst,false),none,none]=r->∀v,aD (di (bD (f2 df (f2 bu (cH 1 1) (fI 2)) (fI 0))) (bt 3 (fA aB (aa (fS "paper") (aa (fI 5) (aa (fA aE (aa (f2 bu (cH 1 2) (fI 20)) af)) (aa (fI 1) (aa (fA aB (aa (fI 0) (aa (fC .non) af))) (aa (fA aE (aa (fI 20) af)) (aa (fA aB (aa (fS "a") af)) af))))))))) aU) h
    [some (.lst L,false),some (.lst (xs.map .int),false),some (.lst du,true),some (v,false),none,none]=r∨v≠.tup [.str "leave",.int 5,.str (cR 20),.str (cR q),.int 1,.tup [.int 0,.non],.int 0]) ->
   ∃ak p,dI [.lst L,.lst (xs.map .int)]=some (.lst [.lst ak,.int ((p:Nat):Int)],true)/\Rf ak p:=λlst ss hflat gr hp zO=>by
  refine⟨S.take a++fd++[.tup [.int 9,lst]]++S.drop a,a+20,?_,⟨S.take a++fd,.tup [.int 9,lst],S.drop a,by simp,by simp[qf];omega,(g.fine.sub ((List.take_sublist _ _).trans Ka)).app (re Im) (λx _ y hy _ hr=>by
   obtain⟨k,_,rfl⟩:=vO (Im y hy);rw[lr k]at hr;cases hr),by simp[qf];omega,.inr (.inr ⟨ss,gr,.inr (rg (λk hk=>mY _ (zK k hk)) gr hp)⟩)⟩,by simp[qf];omega⟩
  have q2:∀ {ρ:DL.Env},ρ[1]? = some (some (.lst (xs.map .int),false))->f2 bu (cH 1 2) (fI 20) ρ=some (.int (q:Int),false):=λ{ρ} e=>aS (x:=.int x2) (y:=.int 20) (b1:=false) (b2:=false) (xh (i:=1) (j:=2) (xs:=xs) (b:=false) e h2) rfl (by rw[gw _ (by decide),hq]);have pq:∀ {ρ:DL.Env},ρ[1]? = some (some (.lst (xs.map .int),false))->fA aE (aa (f2 bu (cH 1 2) (fI 20)) af) ρ=some (.str (cR q),false):=λ{ρ} e=>ai (ds:=[.int q]) (aq (q2 e) rfl) (eY (by omega)).1;have Mm:∀ {ρ:DL.Env},fA aE (aa (fI 20) af) ρ=some (.str (cR 20),false):=λ{ρ}=>ai (ds:=[.int 20]) rfl pY;have c0:=mB (fi:=bB (fI 20)) (nT:=1) (cap:=[]) (tg:=fM 0) (fe:=fA aB (aa (fI 9999) (aa (fA aB (aa (fS "death") (aa (fI 1) (aa (fA aE (fV 0 af)) af)))) af))) (ρ:=[some (.lst L,false),some (.lst (xs.map .int),false),none,none,none,none]) (List.range 20) (λk=>.int (k:Int)) zr (by
    rw[db (j:=20) (b:=false) rfl (by decide)];simp[bA]) (by simp) λk hk=>by
    refine⟨_,rfl,false,ai (ds:=[.int 9999,.tup [.str "death",.int 1,.str (cR k)]]) (aq (b:=false) rfl (aq (b:=false) (ai (ds:=[.str "death",.int 1,.str (cR k)]) (aq (b:=false) rfl (aq (b:=false) rfl (aq (b:=false) (ai (ds:=[.int (k:Int)]) (by simp[fj]) (eY (by have:=List.mem_range.mp hk;omega)).1) rfl))) (dL _ (by simp))) rfl)) (dL _ (by simp))⟩
  refine aF rfl (gn (ds:=du) c0 (ls (lu λx hx=>hx)) (fD (d:=.tup [.str "leave",.int 5,.str (cR 20),.str (cR q),.int 1,.tup [.int 0,.non],.int 0]) (b:=false) (ai (ds:=[.str "leave",.int 5,.str (cR 20),.str (cR q),.int 1,.tup [.int 0,.non],.int 0]) (aq (b:=false) rfl (aq (b:=false) rfl (aq Mm (aq (pq rfl) rfl)))) (dL _ (by simp))) rfl ?_));refine((zO ?_ (.tup [.str "leave",.int 5,.str (cR 20),.str (cR q),.int 1,.tup [.int 0,.non],.int 0])).resolve_right λz=>z rfl);refine gn (ds:=fd) (aS (x:=.lst (du.drop q)) (y:=.lst (du.take q)) (b1:=true) (b2:=true) (Hb (b:=false) (b2:=false) rfl (q2 rfl)) (FI (b:=false) (b2:=false) rfl (q2 rfl)) (pX (by simp[Fu];omega))) (ls (lu Im)) ?_;refine gn (ds:=S) (FI (n:=20) (b:=true) (b2:=false) (xj g.fine.good (by omega) (b:=false) rfl) rfl) (ls λx hx=>g.flat x (Ka.subset hx)) ?_;refine fD (d:=.int (a:Int)) (b:=false) (aS (x:=.int x3) (y:=.int ((S.length:Int)+1)) (b1:=false) (b2:=false) (xh (i:=1) (j:=3) (xs:=xs) (b:=false) rfl h3) (by simp) (by rw[gw _ (by omega),ha])) rfl (aR ?_);refine ai (ds:=[.lst (S.take a++fd++[.tup [.int 9,lst]]++S.drop a),.int ((a+20:Nat):Int)]) (aq (b:=true) (aS (x:=.lst (S.take a++fd++[.tup [.int 9,lst]])) (y:=.lst (S.drop a)) (b1:=true) (b2:=true) (aS (x:=.lst (S.take a++fd)) (y:=.lst [.tup [.int 9,lst]]) (b1:=true) (b2:=true) (aS (x:=.lst (S.take a)) (y:=.lst fd) (b1:=true) (b2:=false) (FI (b:=false) (b2:=false) rfl rfl) rfl (pX (by simp[qf];omega))) (ai (ds:=[.tup [.int 9,lst]]) (aq (b:=false) (ai (ds:=[.int 9,lst]) rfl (dL _ (by simp))) rfl) (fF _ (by simp))) (pX (by simp[qf];omega))) (Hb (b:=false) (b2:=false) rfl rfl) (pX (by simp[qf];omega))) (aq (b:=false) (aS (x:=.int (a:Int)) (y:=.int 20) (b1:=false) (b2:=false) rfl rfl (by simp)) rfl)) (fF _ (by simp))
 have t0:∀ {ρ:DL.Env},ρ[1]? = some (some (.lst (xs.map .int),false))->bD (f2 df (f2 bu (cH 1 1) (fI 2)) (fI 0)) ρ=some (decide (x1 % 2=0)):=λ{ρ} e=>aN (b:=false) (aS (x:=.int (x1 % 2)) (y:=.int 0) (b1:=false) (b2:=false) (aS (x:=.int x1) (y:=.int 2) (b1:=false) (b2:=false) (xh (i:=1) (j:=1) (xs:=xs) (b:=false) e h1) rfl (gw _ (by decide))) rfl (by simp));by_cases h0:x1 % 2=0
 ·refine key (.tup [.str "paper",.int 5,.str (cR q),.int 1,.tup [.int 0,.non],.str (cR 20),.tup [.str "a"]]) [cR q,cR 20] rfl (up Fv) (by simp) λ{h r} e v=>.inl ?_;have q2:∀ {ρ:DL.Env},ρ[1]? = some (some (.lst (xs.map .int),false))->f2 bu (cH 1 2) (fI 20) ρ=some (.int (q:Int),false):=λ{ρ} e=>aS (x:=.int x2) (y:=.int 20) (b1:=false) (b2:=false) (xh (i:=1) (j:=2) (xs:=xs) (b:=false) e h2) rfl (by rw[gw _ (by decide),hq]);refine gI (p9 ((t0 rfl).trans (by rw[decide_eq_true h0])) (wM (d:=.tup [.str "paper",.int 5,.str (cR q),.int 1,.tup [.int 0,.non],.str (cR 20),.tup [.str "a"]]) (b:=false) (ai (ds:=[.str "paper",.int 5,.str (cR q),.int 1,.tup [.int 0,.non],.str (cR 20),.tup [.str "a"]]) (aq (b:=false) rfl (aq (b:=false) rfl (aq (b:=false) (ai (ds:=[.int q]) (aq (q2 rfl) rfl) (eY (by omega)).1) (aq (b:=false) rfl (aq (b:=false) rfl (aq (b:=false) (ai (ds:=[.int 20]) rfl pY) rfl)))))) (dL _ (by simp))) rfl)) e
 ·refine key (.tup [.str "leave",.int 5,.str (cR 20),.str (cR q),.int 1,.tup [.int 0,.non],.int 0]) [cR 20,cR q] rfl (uo Fv) (by simp) λ{h r} e v=>?_;by_cases hv:v=.tup [.str "leave",.int 5,.str (cR 20),.str (cR q),.int 1,.tup [.int 0,.non],.int 0]
  ·exact .inl (aH ((t0 rfl).trans (by rw[decide_eq_false h0])) (by rw[hv];exact e))
  ·exact .inr hv
def zu (aK at':D):Prop:=(at'=.non/\dX [aK,.tup [.ty "list",.ty "tuple"]]=some (.bl false,false)/\aC [aK,.ty "list"]=some (.bl false,false))∨∃ak p,aK=.lst ak/\at'=.int ((p:Nat):Int)/\Rf ak p
theorem axp:cR 0=("axp" : Str):=by decide +kernel
theorem zv {L:List D}(g:lQ L):Rf (L++(List.range (61 - L.length)).map λ(k:Nat)=>row 9999 ("death" : Str) [.int (k:Int),.str "axp"]) 60:=by
 have hL:=g.1;let W:List D:=(List.range (61 - L.length)).map λ(k:Nat)=>row 9999 ("death" : Str) [.int (k:Int),.str "axp"];have hW:W.length=61 - L.length:=by simp[W]
 have zP:∀x∈W,fU x [cR 0]/\bx x=false:=λx hx=>by
  obtain⟨k,hk,rfl⟩:=vO hx;have hk:=List.mem_range.mp hk;refine⟨?_,?_⟩
  ·rw[←axp];exact jx (by omega) (by omega) (by decide) (eY (by decide)).2
  ·show decide (("death" : Str)=("root" : Str))=false;decide +kernel
 have fW:Fine W:=Fine.noRoot (λx hx=>⟨_,(zP x hx).1⟩) (λx hx=>(zP x hx).2) λx hx s hs=>by
  rw[uT (((ln (zP x hx).1).2.2 s).mp hs)];exact Ep (by decide)
 have fA:Fine (L++W):=g.fine.app fW λx _ y hy _ hr=>by rw[(zP y hy).2]at hr;cases hr
 have hl:(L++W).length=61:=by rw[uZ,hW];omega
 have e:L++W=(L++W).take 60++(L++W)[60]'(by omega)::[]:=by
  have:=List.take_append_drop 60 (L++W);rw[List.drop_eq_getElem_cons (by omega),List.drop_eq_nil_of_le (by omega)]at this;exact this.symm
 exact⟨⟨(L++W).take 60,_,[],e,by rw[List.length_take,hl];rfl,fA.sub (List.take_sublist _ _),by rw[List.length_take,hl];decide,.inl (by rw[List.length_take,hl];rfl)⟩,by show(L++W).length<=62;omega⟩
theorem BZ {L:List D}(g:lQ L){a:Nat}(ha:a<=L.length){r:D}(hr:dq [r]=some (.bl false,false)):Rf (L.take a++[r]++L.drop a) a:=by
 have hL:=g.1;exact⟨⟨L.take a,r,L.drop a,by simp,by simp;omega,g.fine.sub (List.take_sublist _ _),by simp;omega,.inr (.inl hr)⟩,by simp;omega⟩
theorem Dr.root {k:Nat}{r:D}(g:Dr k r)(h:bx r=true):∃h:Int,0<=h/\h<=9999/\r=row h ("root" : Str) [.str (dM k),.int 7,.int 2,.str "last"]:=by
 rcases g with g|⟨d,p,h0,h1,hp,rfl⟩
 ·exact g
 ·exact absurd h (by show ¬(decide (("death" : Str)=("root" : Str))=true);decide +kernel)
theorem Ca {L:List D}(g:lQ L){a f:Nat}(ha:a<=L.length){rf:D}(hf:L[f]? = some rf)(Io:bx rf=true){h m:Int}(h0:0<=h)(h1:h<=9999)(hm:1<=m/\m<=255):
  Rf (L.take a++[row h ("root" : Str) [.str (dM (f+2)),.int m,.int 0,.str "open"]]++L.drop a) (if a<=f then f+1 else a):=by
 have hL:=g.1;have qf:=(vV hf).1;let lB:D:=row h ("root" : Str) [.str (dM (f+2)),.int m,.int 0,.str "open"];have gs:fU lB []:=pV h0 h1 (xc (by omega)) hm (by decide) um;have rs:bx lB=true:=by show decide (("root" : Str)=("root" : Str))=true;simp
 have os:dJ lB=dM (f+2):=rfl;have Kb:dJ rf=dM (f+2):=(g.2 f rf hf).off Io;have Ip:Fine [lB]:=⟨λr hr=>⟨[],by rw[uT hr];exact gs⟩,by
  have:([lB].filter bx).map dJ=[dM (f+2)]:=by simp[rs,os]
  rw[this];simp,λr hr s hs=>by
  rw[uT hr]at hs;have:=((ln gs).2.2 s).mp hs;cases this⟩
 have other:∀j x,j≠f->L[j]? = some x->bx x=true->dJ x≠dM (f+2):=λj x hj hx hr e=>by
  rw[(g.2 j x hx).off hr]at e;have:=(vV hx).1;have:=nU (by omega) (by omega) e;omega
 obtain⟨MH,gr,_⟩:=(g.2 f rf hf).good (by omega);by_cases haf:a<=f
 ·rw[if_pos haf];have eL:L.drop a=(L.drop a).take (f - a)++rf::L.drop (f+1):=by
   have h1:=List.take_append_drop (f - a) (L.drop a);rw[List.drop_drop,show a+(f - a)=f by omega,List.drop_eq_getElem_cons qf,(vV hf).2]at h1;exact h1.symm
  have m1:∀x∈L.take a,∃j,j<a/\L[j]? = some x:=λx hx=>by
   obtain⟨j,hj⟩:=List.mem_iff_getElem?.mp hx;rw[List.getElem?_take]at hj;split at hj
   ·rename_i fG;exact⟨j,fG,hj⟩
   ·cases hj
  have m2:∀x∈(L.drop a).take (f - a),∃j,a<=j/\j<f/\L[j]? = some x:=λx hx=>by
   obtain⟨j,hj⟩:=List.mem_iff_getElem?.mp hx;rw[List.getElem?_take]at hj;split at hj
   ·rename_i fG;rw[List.getElem?_drop]at hj;exact⟨a+j,by omega,by omega,hj⟩
   ·cases hj
  have F1:Fine (L.take a++[lB]):=(g.fine.sub (List.take_sublist _ _)).app Ip λx hx y hy hr _=>by
   obtain⟨j,hj,hx⟩:=m1 x hx;rw[uT hy,os];exact other j x (by omega) hx hr
  have F2:Fine (L.take a++[lB]++(L.drop a).take (f - a)):=F1.app (g.fine.sub ((List.take_sublist _ _).trans (List.drop_sublist _ _))) λx hx y hy hr hr2=>by
   obtain⟨j,MI,MJ,hy⟩:=m2 y hy;rcases List.mem_append.mp hx with hx|hx
   ·obtain⟨i,hi,hx⟩:=m1 x hx;intro e;rw[(g.2 i x hx).off hr,(g.2 j y hy).off hr2]at e;have:=nU (by omega) (by omega) e;omega
   ·rw[uT hx,os];exact λe=>other j y (by omega) hy hr2 e.symm
  refine⟨⟨L.take a++[lB]++(L.drop a).take (f - a),rf,L.drop (f+1),by rw[List.append_assoc _ _ (rf::_),←eL],by simp;omega,F2,by simp;omega,.inr (.inr ⟨_,gr,.inl ?_⟩)⟩,by simp;omega⟩;unfold nR;rw[Io,Bool.true_and];refine decide_eq_true (List.mem_map.mpr ⟨lB,List.mem_filter.mpr ⟨List.mem_append_left _ (mY _ (by simp)),rs⟩,by rw[os,Kb]⟩)
 ·rw[if_neg haf];refine⟨⟨L.take a,lB,L.drop a,by simp[lB],by simp;omega,g.fine.sub (List.take_sublist _ _),by simp;omega,.inr (.inr ⟨_,gs,.inl ?_⟩)⟩,by simp;omega⟩;unfold nR;rw[rs,Bool.true_and];refine decide_eq_true (List.mem_map.mpr ⟨rf,List.mem_filter.mpr ⟨?_,Io⟩,by rw[os,Kb]⟩);refine List.mem_iff_getElem?.mpr ⟨f,?_⟩;rw[List.getElem?_take,if_pos (by omega)];exact hf
noncomputable def ri:List D:=[.non,.int 7,.str "rows",.dk [] [],.bl true,.str "",.tup [.int 9,.int 9]]
theorem zw:(ri.take 6).all (λd=>Ay (dX [d,.tup [.ty "list",.ty "tuple"]]) (.bl false) false && Ay (aC [d,.ty "list"]) (.bl false) false)=true:=by decide +kernel
theorem zx {L:List D}{xs:List Int}{x0 x1 x2 x3:Int}(g:lQ L)(h0:xs[0]? = some x0)(h1:xs[1]? = some x1)(h2:xs[2]? = some x2)(h3:xs[3]? = some x3):
  ∃aK at',la [.lst L,.lst (xs.map .int)]=some (.lst [aK,at'],true)/\zu aK at':=by
 have hL:=g.1;have Ij:=mod_lt (x:=x1) (m:=(L.length:Int)+1) (by omega);obtain⟨a,ha⟩:∃a:Nat,x1 % ((L.length:Int)+1)=(a:Int):=⟨(x1 % ((L.length:Int)+1)).toNat,by omega⟩;have Kc:a<=L.length:=by omega
 let R:OB->OB->OB->OB->DL.Env:=λv4 v5 v6 v7=>[some (.lst L,false),some (.lst (xs.map .int),false),some (.int (x0 % 6),false),some (.int (a:Int),false),v4,v5,v6,v7];have ix:∀ {j:Nat}{x:Int}{v4 v5 v6 v7},xs[j]? = some x->f2 cI (aj 1) (fI j) (R v4 v5 v6 v7)=some (.int x,false):=λ{j x v4 v5 v6 v7} h=>xh (i:=1) (j:=j) (xs:=xs) (b:=false) rfl h;have qe:∀ {c:Int}{v4 v5 v6 v7},bD (f2 df (aj 2) (fI c)) (R v4 v5 v6 v7)=some (decide (x0 % 6=c)):=λ{c v4 v5 v6 v7}=>aN (b:=false) (aS (x:=.int (x0 % 6)) (y:=.int c) (b1:=false) (b2:=false) rfl rfl (by simp));have cY:∀ {d:D}{b:Bool}{k:FS},k (R none none none none)=some (.rt d b)->aD (bt 2 (f2 bu (cH 1 0) (fI 6))) (aD (bt 3 (f2 bu (cH 1 1) (f2 bj (fA bZ (fV 0 af)) (fI 1)))) k) [some (.lst L,false),some (.lst (xs.map .int),false),none,none,none,none,none,none]=some (.rt d b):=λ{d b k} e=>
  fD (d:=.int (x0 % 6)) (b:=false) (aS (x:=.int x0) (y:=.int 6) (b1:=false) (b2:=false) (xh (i:=1) (j:=0) (xs:=xs) (b:=false) rfl h0) rfl (gw _ (by decide))) rfl (fD (d:=.int (a:Int)) (b:=false) (aS (x:=.int x1) (y:=.int ((L.length:Int)+1)) (b1:=false) (b2:=false) (xh (i:=1) (j:=1) (xs:=xs) (b:=false) rfl h1) (by simp) (by rw[gw _ (by omega),ha])) rfl e)
 by_cases f0:x0 % 6=0
 ·have MK:=mod_lt (x:=x1) (m:=6) (by decide);obtain⟨j,hj⟩:∃j:Nat,x1 % 6=(j:Int):=⟨(x1 % 6).toNat,by omega⟩;have ML:j<6:=by omega
  have Mn:j<ri.length:=by show j<7;omega
  have ho:=uR zw ri[j] (List.mem_iff_getElem.mpr ⟨j,by simp[ri];omega,by simp⟩);rw[vC]at ho;refine⟨ri[j],.non,aF rfl (cY (cL (qe.trans (by rw[decide_eq_true f0])) (aR (ai (ds:=[ri[j],.non]) (aq (b:=false) (aS (x:=.lst ri) (y:=.int (j:Int)) (b1:=true) (b2:=false) rfl (aS (x:=.int x1) (y:=.int 6) (b1:=false) (b2:=false) (ix h1) rfl (by rw[gw _ (by decide),hj])) ?_) rfl) (fF _ (by simp)))))),.inl ⟨rfl,cw ho.1,cw ho.2⟩⟩;simp only[cI];rw[eN Mn];rfl
 by_cases f1:x0 % 6=1
 ·obtain⟨ak,p,e,rf⟩:=rh g h1 h2 h3;exact⟨.lst ak,.int (p:Int),aF rfl (cY (aH (qe.trans (by rw[decide_eq_false f0])) (cL (qe.trans (by rw[decide_eq_true f1])) (aR (ai (ds:=[.lst L,.lst (xs.map .int)]) rfl e))))),.inr ⟨ak,p,rfl,rfl,rf⟩⟩
 let T:List Nat:=(List.range L.length).filter λk=>bx (L.getD k .non);have hT:∀k∈T,k<L.length/\bx (L.getD k .non)=true:=λk hk=>by
  obtain⟨h1,h2⟩:=List.mem_filter.mp hk;exact⟨List.mem_range.mp h1,h2⟩
 have MM:T.length<=40:=vR (List.length_filter_le _ _) (by simp;omega);let tl:List D:=T.map λ(k:Nat)=>.int (k:Int);have there:bN (bB (fA bZ (fV 0 af))) 1 [0] (fM 0) (bD (f2 df (f2 cI (f2 cI (f2 cI (aj 1) (aj 0)) (fI 1)) (fI 0)) (fS "root"))) (aj 0) (R none none none none)=some (.lst tl,true):=by
  refine pA (fi:=bB (fA bZ (fV 0 af))) (nT:=1) (cap:=[0]) (tg:=fM 0) (fe:=aj 0) (List.range L.length) (λ(k:Nat)=>.int (k:Int)) (λk=>bx (L.getD k .non)) (λ(k:Nat)=>.int (k:Int)) ?_ (by simp;omega) λk hk=>?_
  ·rw[db (j:=L.length) (b:=false) (by simp[R]) (by omega)];simp[bA]
  ·have hk:=List.mem_range.mp hk;have hg:L.getD k .non=L[k]:=by rw[List.getD_eq_getElem?_getD,vU hk];rfl
   obtain⟨ss,h,kind,ay,er,_⟩:=g.fine.good L[k] (List.getElem_mem hk);refine⟨_,rfl,aN (b:=false) (aS (x:=.str kind) (y:=.str "root") (b1:=false) (b2:=false) ?_ rfl ?_),λ_=>⟨false,by simp[fj]⟩⟩
   ·have:=eN hk;rw[er]at this;simp[fj,R,this,row,A2,A3]
   ·rw[hg,er];exact BV _ _
 have Fw:bi tl=true:=eV λx hx=>by obtain⟨k,_,rfl⟩:=vO hx;rfl
 have Iq:∀ {d:D}{b:Bool}{k:FS},k (R (some (.lst tl,true)) none none none)=some (.rt d b)->aD (di (bD (f2 df (aj 2) (fI 0))) (aX (fA b9 (aa (f2 cI (fA b9 (aa (fC .non) (aa (fI 7) (aa (fS "rows") (aa GU (aa (fC (.bl true)) (aa (fS "") (aa (fA aB (aa (fI 9) (aa (fI 9) af))) af)))))))) (f2 bu (cH 1 1) (fI 6))) (aa (fC .non) af)))) aU) (aD (di (bD (f2 df (aj 2) (fI 1))) (aX (fA dI (fV 0 (fV 1 af)))) aU) (aD (bt 4 (bN (bB (fA bZ (fV 0 af))) 1 [0] (fM 0) (bD (f2 df (f2 cI (f2 cI (f2 cI (aj 1) (aj 0)) (fI 1)) (fI 0)) (fS "root"))) (aj 0))) k)) (R none none none none)=some (.rt d b):=λ{d b k} e=>
  aH (qe.trans (by rw[decide_eq_false f0])) (aH (qe.trans (by rw[decide_eq_false f1])) (gn (ds:=tl) there Fw e))
 have Fx:∀ {v5 v6 v7},fA bZ (fV 4 af) (R (some (.lst tl,true)) v5 v6 v7)=some (.int (T.length:Int),false):=λ{v5 v6 v7}=>by simp[R,tl]
 have cond:dQ (bD (f2 df (aj 2) (fI 2))) (bD (f2 F7 (fA bZ (fV 4 af)) (fI 0))) (R (some (.lst tl,true)) none none none)=some (decide (x0 % 6=2) && decide (0<T.length)):=iV qe λ_=>aN (b:=false) (aS (x:=.int (T.length:Int)) (y:=.int 0) (b1:=false) (b2:=false) Fx rfl (by simp));have tk:∀ {v4 v5 v6 v7},iB (aj 0) bP (bJ (aj 3)) (R v4 v5 v6 v7)=some (.lst (L.take a),true):=λ{v4 v5 v6 v7}=>FI (b:=false) (b2:=false) rfl rfl;have dp:∀ {v4 v5 v6 v7},iB (aj 0) (bJ (aj 3)) bP (R v4 v5 v6 v7)=some (.lst (L.drop a),true):=λ{v4 v5 v6 v7}=>Hb (b:=false) (b2:=false) rfl rfl;have Fy:∀ {fr:FE}{r:D}{br:Bool}{v4 v5 v6 v7},fr (R v4 v5 v6 v7)=some (.lst [r],br)->f2 bj (f2 bj (iB (aj 0) bP (bJ (aj 3))) fr) (iB (aj 0) (bJ (aj 3)) bP) (R v4 v5 v6 v7)=some (.lst (L.take a++[r]++L.drop a),true):=λ{fr r br v4 v5 v6 v7} e=>
  aS (x:=.lst (L.take a++[r])) (y:=.lst (L.drop a)) (b1:=true) (b2:=true) (aS (x:=.lst (L.take a)) (y:=.lst [r]) (b1:=true) (b2:=br) tk e (pX (by simp;omega))) dp (pX (by simp;omega))
 by_cases f2':x0 % 6=2/\0<T.length
 ·have MN:=mod_lt (x:=x2) (m:=(T.length:Int)) (by omega);obtain⟨i,hi⟩:∃i:Nat,x2 % (T.length:Int)=(i:Int):=⟨(x2 % (T.length:Int)).toNat,by omega⟩;have Kd:i<T.length:=by omega
  obtain⟨f,hf⟩:∃f,T[i]=f:=⟨_,rfl⟩;obtain⟨qf,qd⟩:=hT f (by rw[←hf];exact List.getElem_mem Kd);have Mo:L.getD f .non=L[f]:=by rw[List.getD_eq_getElem?_getD,vU qf];rfl
  rw[Mo]at qd;obtain⟨hh,_,_,er⟩:=(g.2 f L[f] (vU qf)).root qd;have Ir:=mod_lt (x:=x3) (m:=10000) (by decide);have Gn:=mod_lt (x:=x3) (m:=255) (by decide);have rf:=Ca g Kc (vU qf) qd (h:=x3 % 10000) (m:=1+x3 % 255) Ir.1 (by omega) ⟨by omega,by omega⟩;let lB:D:=row (x3 % 10000) ("root" : Str) [.str (dM (f+2)),.int (1+x3 % 255),.int 0,.str "open"];have e5:f2 cI (aj 4) (f2 bu (cH 1 2) (fA bZ (fV 4 af))) (R (some (.lst tl,true)) none none none)=some (.int (f:Int),false):=by
   refine aS (x:=.lst tl) (y:=.int (i:Int)) (b1:=false) (b2:=false) rfl (aS (x:=.int x2) (y:=.int (T.length:Int)) (b1:=false) (b2:=false) (ix h2) Fx (by rw[gw _ (by omega),hi])) ?_;have sR:i<tl.length:=by simp[tl];exact Kd
   simp only[cI];rw[eN sR];simp[tl,hf]
  have e6:fA aB (aa (f2 bu (cH 1 3) (fI 10000)) (aa (fA aB (aa (fS "root") (aa (f2 cI (f2 cI (f2 cI (aj 0) (aj 5)) (fI 1)) (fI 1)) (aa (f2 bj (fI 1) (f2 bu (cH 1 3) (fI 255))) (aa (fI 0) (aa (fS "open") af)))))) af)) (R (some (.lst tl,true)) (some (.int (f:Int),false)) none none)=some (lB,false):=by
   refine ai (ds:=[.int (x3 % 10000),.tup [.str "root",.str (dM (f+2)),.int (1+x3 % 255),.int 0,.str "open"]]) (aq (b:=false) (aS (x:=.int x3) (y:=.int 10000) (b1:=false) (b2:=false) (ix h3) rfl (gw _ (by decide))) (aq (b:=false) (ai (ds:=[.str "root",.str (dM (f+2)),.int (1+x3 % 255),.int 0,.str "open"]) (aq (b:=false) rfl (aq (b:=false) ?_ (aq (b:=false) (aS (x:=.int 1) (y:=.int (x3 % 255)) (b1:=false) (b2:=false) rfl (aS (x:=.int x3) (y:=.int 255) (b1:=false) (b2:=false) (ix h3) rfl (gw _ (by decide))) rfl) rfl))) (dL _ (by simp))) rfl)) (dL _ (by simp));have:=eN qf;rw[er]at this;simp[R,this,row,A3]
  have g0:aD (di (bD (f2 mm (aj 3) (aj 5))) (aX (fA b9 (aa (f2 bj (f2 bj (iB (aj 0) bP (bJ (aj 3))) (fA b9 (fV 6 af))) (iB (aj 0) (bJ (aj 3)) bP)) (aa (f2 bj (aj 5) (fI 1)) af)))) aU) (aX (fA b9 (aa (f2 bj (f2 bj (iB (aj 0) bP (bJ (aj 3))) (fA b9 (fV 6 af))) (iB (aj 0) (bJ (aj 3)) bP)) (fV 3 af)))) (R (some (.lst tl,true)) (some (.int (f:Int),false)) (some (lB,false)) none)=some (.rt (.lst [.lst (L.take a++[lB]++L.drop a),.int ((if a<=f then f+1 else a:Nat):Int)]) true):=by
   have c:bD (f2 mm (aj 3) (aj 5)) (R (some (.lst tl,true)) (some (.int (f:Int),false)) (some (lB,false)) none)=some (decide (a<=f)):=aN (b:=false) (aS (x:=.int (a:Int)) (y:=.int (f:Int)) (b1:=false) (b2:=false) rfl rfl (by simp));have gl:=Fy (fr:=fA b9 (fV 6 af)) (r:=lB) (br:=true) (v4:=some (.lst tl,true)) (v5:=some (.int (f:Int),false)) (v6:=some (lB,false)) (v7:=none) (ai (ds:=[lB]) rfl (fF _ (by simp)));by_cases haf:a<=f
   ·rw[if_pos haf];exact cL (c.trans (by rw[decide_eq_true haf])) (aR (ai (ds:=[.lst (L.take a++[lB]++L.drop a),.int ((f+1:Nat):Int)]) (aq gl (aq (b:=false) (aS (x:=.int (f:Int)) (y:=.int 1) (b1:=false) (b2:=false) rfl rfl (by simp)) rfl)) (fF _ (by simp))))
   ·rw[if_neg haf];exact aH (c.trans (by rw[decide_eq_false haf])) (aR (ai (ds:=[.lst (L.take a++[lB]++L.drop a),.int (a:Int)]) (aq gl rfl) (fF _ (by simp))))
  refine⟨.lst (L.take a++[lB]++L.drop a),.int ((if a<=f then f+1 else a:Nat):Int),aF rfl (cY (Iq (cL (cond.trans (by rw[decide_eq_true f2'.1,decide_eq_true f2'.2];rfl)) (fD (d:=.int (f:Int)) (b:=false) e5 rfl (fD (d:=lB) (b:=false) e6 rfl g0))))),.inr ⟨_,_,rfl,rfl,rf⟩⟩
 have c2:(decide (x0 % 6=2) && decide (0<T.length))=false:=by
  rw[Bool.and_eq_false_iff];by_cases h:x0 % 6=2
  ·exact .inr (decide_eq_false λz=>f2' ⟨h,z⟩)
  ·exact .inl (decide_eq_false h)
 by_cases f3:x0 % 6=3
 ·let W:List D:=(List.range (61 - L.length)).map λ(k:Nat)=>row 9999 ("death" : Str) [.int (k:Int),.str "axp"];have ew:bN (bB (f2 lK (fI 61) (fA bZ (fV 0 af)))) 1 [] (fM 0) dw (fA aB (aa (fI 9999) (aa (fA aB (aa (fS "death") (fV 0 (aa (fS "axp") af)))) af))) (R (some (.lst tl,true)) none none none)=some (.lst W,true):=by
   refine mB (fi:=bB (f2 lK (fI 61) (fA bZ (fV 0 af)))) (nT:=1) (cap:=[]) (tg:=fM 0) (List.range (61 - L.length)) (λ(k:Nat)=>.int (k:Int)) (λ(k:Nat)=>row 9999 ("death" : Str) [.int (k:Int),.str "axp"]) ?_ (by simp;omega) λk hk=>?_
   ·rw[db (j:=61 - L.length) (b:=false) (by simp[R];omega) (by omega)];simp[bA]
   ·exact⟨_,rfl,false,ai (ds:=[.int 9999,.tup [.str "death",.int (k:Int),.str "axp"]]) (aq (b:=false) rfl (aq (b:=false) (ai (ds:=[.str "death",.int (k:Int),.str "axp"]) rfl (dL _ (by simp))) rfl)) (dL _ (by simp))⟩
  have hW:W.length=61 - L.length:=by simp[W]
  have fl:bi (L++W)=true:=eV λx hx=>(List.mem_append.mp hx).elim (g.flat x) λhx=>by obtain⟨k,_,rfl⟩:=vO hx;rfl
  refine⟨.lst (L++W),.int ((60:Nat):Int),aF rfl (cY (Iq (aH (cond.trans (by rw[c2])) (cL (qe.trans (by rw[decide_eq_true f3])) (gn (ds:=L++W) (aS (x:=.lst L) (y:=.lst W) (b1:=false) (b2:=true) rfl ew (pX (by rw[hW];omega))) fl (aR (ai (ds:=[.lst (L++W),.int 60]) rfl (fF _ (by simp))))))))),.inr ⟨_,60,rfl,rfl,zv g⟩⟩
 ·obtain⟨r,er,hr⟩:=mM x2;refine⟨.lst (L.take a++[r]++L.drop a),.int (a:Int),aF rfl (cY (Iq (aH (cond.trans (by rw[c2])) (aH (qe.trans (by rw[decide_eq_false f3])) (aR (ai (ds:=[.lst (L.take a++[r]++L.drop a),.int (a:Int)]) (aq (Fy (br:=true) (ai (ds:=[r]) (aq (b:=false) (ai (ds:=[.int x2]) (aq (b:=false) (ix h2) rfl) er) rfl) (fF _ (by simp)))) rfl) (fF _ (by simp)))))))),.inr ⟨_,a,rfl,rfl,BZ g Kc hr⟩⟩
def lD (ρ:DL.Env)(l:List D):Prop:=ρ.length=l.length/\∀(i:Nat)(d:D),l[i]? = some d->∃b,ρ[i]? = some (some (d,b))
theorem lD.var {ρ:DL.Env}{l:List D}(h:lD ρ l){i:Nat}{d:D}(e:l[i]? = some d):aj i ρ=some (d,false):=by
 obtain⟨b,eb⟩:=h.2 i d e;simp[eb]
theorem lD.put {ρ:DL.Env}{l:List D}(h:lD ρ l)(i:Nat)(d:D)(c:Bool):lD (ρ.set i (some (d,c))) (l.set i d):=by
 refine⟨by simp[h.1],λj x e=>?_⟩;by_cases hij:i=j
 ·subst hij;have hl:i<l.length:=by
   rcases Nat.lt_or_ge i l.length with z|z
   ·exact z
   ·rw[List.getElem?_eq_none (by simp;omega)]at e;cases e
  rw[List.getElem?_set_self hl]at e;cases e
  exact⟨c,by rw[List.getElem?_set_self (by rw[h.1];exact hl)]⟩
 ·rw[vB hij]at e ⊢;exact h.2 j x e
theorem lD.un {ρ:DL.Env}{l:List D}(h:lD ρ l):lD (unown ρ) l:=by
 refine⟨by unfold unown;simp[h.1],λj x e=>?_⟩;obtain⟨b,eb⟩:=h.2 j x e;exact⟨false,by unfold unown;rw[vA,eb];rfl⟩
theorem lD.setE {ρ:DL.Env}{l:List D}(h:lD ρ l)(i:Nat)(d:D)(b:Bool):lD (DL.setE ρ i d b) (l.set i d):=by
 unfold DL.setE;split
 ·exact h.put i d false
 ·split
  ·exact h.put i d true
  ·exact h.un.put i d false
theorem sM {i:Nat}{f:FE}{ρ:DL.Env}{d:D}{b:Bool}(e:f ρ=some (d,b)):bt i f ρ=some (.nx (DL.setE ρ i d b)):=by
 unfold bt;rw[e];rfl
theorem Er:(List.range 30).all (λk=>Ay (aE [.int k]) (.str (cR k)) false)=true:=by decide +kernel
theorem xk {k:Nat}(h:k<30):aE [.int k]=some (.str (cR k),false):=cw (uR Er k (List.mem_range.mpr h))
theorem Cb (ns:List Int):∃c,gP [.lst (ns.map .int),.int 0]=some (.int c,false):=by
 cases ns with
 |nil=>exact⟨0,aF rfl (aH (aN (b:=false) (by simp)) (aR rfl))⟩
 |cons a l=>exact⟨a,aF rfl (cL (aN (b:=false) (by simp)) (aR (aS (x:=.lst ((a::l).map .int)) (y:=.int 0) (b1:=false) (b2:=false) rfl rfl (by simp[A2]))))⟩
def jS (aK t:D):Prop:=t=aK∨∃ak ex,aK=.lst ak/\t=.lst (ak++ex)/\ex.length<=62
noncomputable def fY:D->Bool
 |.lst _=>true
 |_=>false
theorem Cc {aK at':D}(c:zu aK at'):aC [aK,.ty "list"]=some (.bl (fY aK),false):=by
 rcases c with⟨_,_,h⟩|⟨ak,p,rfl,_,_⟩
 ·cases aK<;>first|exact h|(simp[fY]at h ⊢)
 ·simp[fY]
theorem zy {aK t:D}(e:jS aK t):fY t=fY aK:=by
 rcases e with rfl|⟨ak,ex,rfl,rfl,_⟩<;>rfl
theorem Es {aK at' t:D}(c:zu aK at')(e:jS aK t):aC [t,.ty "list"]=some (.bl (fY aK),false):=by
 rcases e with rfl|⟨ak,ex,rfl,rfl,_⟩
 ·exact Cc c
 ·simp[fY]
theorem xl {aK at' t t':D}(c:zu aK at')(e:jS aK t)(h:t'=t∨∃l,t=.lst l/\t'=.tup l):∃d,bp [t']=some (d,false)/\lb d at'=true:=by
 rcases c with⟨rfl,h1,h2⟩|⟨ak,p,rfl,rfl,rf⟩
 ·have ht:t=aK:=by
   rcases e with e|⟨ak,ex,rfl,_⟩
   ·exact e
   ·simp at h2
  subst ht;have HZ:t'=t:=by
   rcases h with h|⟨l,rfl,_⟩
   ·exact h
   ·simp at h2
  subst HZ;exact⟨.non,wW h1,rfl⟩
 ·obtain⟨ex,et,u6⟩:∃ex,t=.lst (ak++ex)/\ex.length<=62:=by
   rcases e with e|⟨Fz,ex,e1,e2,e3⟩
   ·exact⟨[],by rw[e,uQ],by simp⟩
   ·cases e1;exact⟨ex,e2,e3⟩
  obtain⟨⟨pre,r,post,er,ep,F,hp,hc⟩,bS⟩:=rf;have eq:ak++ex=pre++r::(post++ex):=by rw[er];simp
  have hl:(pre++r::(post++ex)).length<=200:=by rw[←eq,uZ];omega
  refine⟨.int (p:Int),?_,by simp[lb]⟩;rw[ep];refine BY F hp hl hc ?_;rw[←eq];rcases h with h|⟨l,h1,h2⟩
  ·exact .inl (h.trans et)
  ·rw[et]at h1;cases h1;exact .inr h2
theorem pZ {t at':D}{b:Bool}(h:∃d,bp [t]=some (d,false)/\lb d at'=true):cC [t,at',.bl b]=some (.bl true,false):=by
 obtain⟨d,h1,h2⟩:=h;show(bp [t]).bind _=_;rw[h1,vI,if_pos h2]
theorem Dr.plain {k:Nat}{r:D}(g:Dr k r):aM 39 r=true:=by
 rcases g with⟨h,h0,h1,rfl⟩|⟨d,p,h0,h1,hp,rfl⟩<;>rfl
def Cd (c:Int):FT:=dQ (bD (fA aC (fV 3 (aa (fC (.ty "list")) af)))) (bD (f2 df (f2 bu (f2 ik (cH 2 4) (fI 4)) (fI 4)) (fI c)))
theorem uq {f:FE}{k:FS}{ρ:DL.Env}{a b:D}{c:Bool}(e:f ρ=some (.lst [a,b],c)):aD (mq [3,4] f) k ρ=k (((if bi [a,b]=true then ρ else unown ρ).set 3 (some (a,false))).set 4 (some (b,false))):=by
 have:mq [3,4] f ρ=some (.nx (((if bi [a,b]=true then ρ else unown ρ).set 3 (some (a,false))).set 4 (some (b,false)))):=by
  unfold mq;rw[e];simp[gm]
 unfold aD;rw[this]
theorem law_true (ns:List Int)(EN:ns.length<=63)(hf:GQ ns):∃b,F_law [.lst (ns.map .int)]=some (.bl true,b):=by
 obtain⟨L,eL,g⟩:=zo ns EN;obtain⟨c0,Mp⟩:=Cb ns;obtain⟨xs,ex,Mk,hx⟩:=mL c0 80 5 (by decide) (by decide);obtain⟨x0,CW⟩:∃z,xs[0]? = some z:=⟨_,vU (by omega)⟩;obtain⟨x1,Gm⟩:∃z,xs[1]? = some z:=⟨_,vU (by omega)⟩;obtain⟨x2,CV⟩:∃z,xs[2]? = some z:=⟨_,vU (by omega)⟩;obtain⟨x3,Ir⟩:∃z,xs[3]? = some z:=⟨_,vU (by omega)⟩;obtain⟨x4,Gn⟩:∃z,xs[4]? = some z:=⟨_,vU (by omega)⟩;obtain⟨aK,at',ec,c⟩:=zx g CW Gm CV Ir;have fL:bi L=true:=eV g.flat;have fX:bi (xs.map D.int)=true:=eV λx hx=>by obtain⟨k,_,rfl⟩:=vO hx;rfl
 let l:D->List D:=λt=>[.lst (ns.map .int),.lst L,.lst (xs.map .int),t,at'];let ρa:DL.Env:=[some (.lst (ns.map .int),false),some (.lst L,true),some (.lst (xs.map .int),true),none,none];let ρ1:DL.Env:=((if bi [aK,at']=true then ρa else unown ρa).set 3 (some (aK,false))).set 4 (some (at',false));have H1:lD ρ1 (l aK):=by
  show lD (((if bi [aK,at']=true then ρa else unown ρa).set 3 (some (aK,false))).set 4 (some (at',false))) _;split
  ·refine⟨rfl,λi d e=>?_⟩;match i,e with
   |0,e=>cases e;exact⟨_,rfl⟩
   |1,e=>cases e;exact⟨_,rfl⟩
   |2,e=>cases e;exact⟨_,rfl⟩
   |3,e=>cases e;exact⟨_,rfl⟩
   |4,e=>cases e;exact⟨_,rfl⟩
  ·refine⟨rfl,λi d e=>?_⟩;match i,e with
   |0,e=>cases e;exact⟨_,rfl⟩
   |1,e=>cases e;exact⟨_,rfl⟩
   |2,e=>cases e;exact⟨_,rfl⟩
   |3,e=>cases e;exact⟨_,rfl⟩
   |4,e=>cases e;exact⟨_,rfl⟩
 have ix:∀ {ρ:DL.Env}{t:D}{j:Nat}{x:Int},lD ρ (l t)->xs[j]? = some x->f2 cI (aj 2) (fI j) ρ=some (.int x,false):=λ{ρ t j x} h e=>by
  obtain⟨b,eb⟩:=h.2 2 (.lst (xs.map .int)) rfl;exact xh (i:=2) (j:=j) (xs:=xs) (b:=b) eb e
 have Ke:∀ {ρ:DL.Env}{t:D},lD ρ (l t)->jS aK t->bD (fA aC (fV 3 (aa (fC (.ty "list")) af))) ρ=some (fY aK):=λ{ρ t} h e=>aN (b:=false) (ai (ds:=[t,.ty "list"]) (aq (h.var (i:=3) rfl) rfl) (Es c e));have hc:∀ {ρ:DL.Env}{t:D}{k:Int},lD ρ (l t)->jS aK t->Cd k ρ=some (fY aK && decide (x4 / 4 % 4=k)):=λ{ρ t k} h e=>
  iV (Ke h e) λ_=>aN (b:=false) (aS (x:=.int (x4 / 4 % 4)) (y:=.int k) (b1:=false) (b2:=false) (aS (x:=.int (x4 / 4)) (y:=.int 4) (b1:=false) (b2:=false) (aS (x:=.int x4) (y:=.int 4) (b1:=false) (b2:=false) (ix h Gn) rfl (Eo _ (by decide) (by decide))) rfl (gw _ (by decide))) rfl (by simp))
 have E0:jS aK aK:=.inl rfl;let s1:FS:=bt 3 (f2 bj (aj 3) (fA b9 (aa (fA dC (aa (cH 2 1) af)) af)));let s2:FS:=bt 3 (f2 bj (aj 3) (bN (bB (f2 lK (fI 62) (fA bZ (fV 3 af)))) 1 [] (fM 0) dw (fA aB (aa (fI 9999) (aa (fA aB (aa (fS "death") (aa (fI 7) (aa (fA aE (aa (f2 bu (aj 0) (fI 20)) af)) af)))) af)))));let s3:FS:=aD (bt 3 (f2 bj (aj 3) (bN (bB (fI 30)) 1 [] (fM 0) dw (fA aB (aa (fI 9999) (aa (fA aB (aa (fS "death") (aa (fI 7) (aa (fA aE (fV 0 af)) af)))) af))))))
  (bt 3 (f2 bj (aj 3) (yP (fA b9 (aa (fA aB (aa (fI 9) (aa (fA aB (aa (fS "root") (aa (fS "q") (aa (fI 1) (aa (fI 1) (aa (fS "open") af)))))) af))) af)) (fI 2))))
 obtain⟨ρ3,t,e3,H3,E3⟩:∃ρ3 t,(∀ {k:FS}{r:Option Res},k ρ3=r->aD (di (Cd 1) s1 aU) (aD (di (Cd 2) s2 aU) (aD (di (Cd 3) s3 aU) k)) ρ1=r)/\lD ρ3 (l t)/\jS aK t:=by
  cases hb:fY aK with
  |false=>
   have no:∀ {k:Int},Cd k ρ1=some false:=λ{k}=>(hc H1 E0).trans (by rw[hb];rfl);exact⟨ρ1,aK,λe=>aH no (aH no (aH no e)),H1,E0⟩
  |true=>
   obtain⟨ak,rfl⟩:∃ak,aK=.lst ak:=by
    cases aK<;>first|exact⟨_,rfl⟩|cases hb
   have bS:ak.length<=62:=by
    rcases c with⟨_,_,h⟩|⟨Fz,p,e,_,rf⟩
    ·simp at h
    ·cases e;exact rf.len
   have ES:∀ {ρ:DL.Env}{t:D}{k:Int},lD ρ (l t)->jS (.lst ak) t->x4 / 4 % 4=k->Cd k ρ=some true:=λh e z=>(hc h e).trans (by rw[hb,decide_eq_true z];rfl);have no:∀ {ρ:DL.Env}{t:D}{k:Int},lD ρ (l t)->jS (.lst ak) t->x4 / 4 % 4≠k->Cd k ρ=some false:=λh e z=>(hc h e).trans (by rw[hb,decide_eq_false z];rfl);have Go:∀ {ρ:DL.Env}{a w:List D}{f:FE}{b:Bool},lD ρ (l (.lst a))->f ρ=some (.lst w,b)->a.length+w.length<=1000->bt 3 (f2 bj (aj 3) f) ρ=some (.nx (DL.setE ρ 3 (.lst (a++w)) true))/\lD (DL.setE ρ 3 (.lst (a++w)) true) (l (.lst (a++w))):=λ{ρ a w f b} h e hl=>
    ⟨sM (aS (x:=.lst a) (y:=.lst w) (b1:=false) (b2:=b) (h.var (i:=3) rfl) e (pX hl)),h.setE 3 _ _⟩
   by_cases m1:x4 / 4 % 4=1
   ·obtain⟨r,er,_⟩:=mM x1;obtain⟨a1,H2⟩:=Go (w:=[r]) (b:=true) (f:=fA b9 (aa (fA dC (aa (cH 2 1) af)) af)) H1 (ai (ds:=[r]) (aq (b:=false) (ai (ds:=[.int x1]) (aq (b:=false) (ix H1 Gm) rfl) er) rfl) (fF _ (by simp))) (by simp;omega);have E2:jS (.lst ak) (.lst (ak++[r])):=.inr ⟨ak,[r],rfl,rfl,by simp⟩;exact⟨_,_,λe=>gI (p9 (ES H1 E0 m1) a1) (aH (no H2 E2 (by omega)) (aH (no H2 E2 (by omega)) e)),H2,E2⟩
   by_cases m2:x4 / 4 % 4=2
   ·let W:List D:=(List.range (62 - ak.length)).map λ(k:Nat)=>row 9999 ("death" : Str) [.int 7,.str (cR (k % 20))];have hW:W.length=62 - ak.length:=by simp[W]
    have ew:bN (bB (f2 lK (fI 62) (fA bZ (fV 3 af)))) 1 [] (fM 0) dw (fA aB (aa (fI 9999) (aa (fA aB (aa (fS "death") (aa (fI 7) (aa (fA aE (aa (f2 bu (aj 0) (fI 20)) af)) af)))) af))) ρ1=some (.lst W,true):=by
     refine mB (fi:=bB (f2 lK (fI 62) (fA bZ (fV 3 af)))) (nT:=1) (cap:=[]) (tg:=fM 0) (List.range (62 - ak.length)) (λ(k:Nat)=>.int (k:Int)) (λ(k:Nat)=>row 9999 ("death" : Str) [.int 7,.str (cR (k % 20))]) ?_ (by simp;omega) λk hk=>?_
     ·have hv:=H1.var (i:=3) (d:=.lst ak) rfl;rw[db (j:=62 - ak.length) (b:=false) (aS (x:=.int 62) (y:=.int (ak.length:Int)) (b1:=false) (b2:=false) rfl (ai (ds:=[.lst ak]) (aq hv rfl) (by simp)) (by simp;omega)) (by omega)];simp[bA]
     ·refine⟨_,rfl,false,ai (ds:=[.int 9999,.tup [.str "death",.int 7,.str (cR (k % 20))]]) (aq (b:=false) rfl (aq (b:=false) (ai (ds:=[.str "death",.int 7,.str (cR (k % 20))]) (aq (b:=false) rfl (aq (b:=false) rfl (aq (b:=false) (ai (ds:=[.int ((k % 20:Nat):Int)]) (aq (b:=false) (aS (x:=.int (k:Int)) (y:=.int 20) (b1:=false) (b2:=false) (by simp[fj]) rfl (by rw[gw _ (by decide)];simp)) rfl) (xk (by omega))) rfl))) (dL _ (by simp))) rfl)) (dL _ (by simp))⟩
    obtain⟨a1,H2⟩:=Go (w:=W) (b:=true) H1 ew (by omega);have E2:jS (.lst ak) (.lst (ak++W)):=.inr ⟨ak,W,rfl,rfl,by omega⟩;exact⟨_,_,λe=>aH (no H1 E0 m1) (gI (p9 (ES H1 E0 m2) a1) (aH (no H2 E2 (by omega)) e)),H2,E2⟩
   by_cases m3:x4 / 4 % 4=3
   ·let W:List D:=(List.range 30).map λ(k:Nat)=>row 9999 ("death" : Str) [.int 7,.str (cR k)];have hW:W.length=30:=by simp[W]
    have ew:bN (bB (fI 30)) 1 [] (fM 0) dw (fA aB (aa (fI 9999) (aa (fA aB (aa (fS "death") (aa (fI 7) (aa (fA aE (fV 0 af)) af)))) af))) ρ1=some (.lst W,true):=by
     refine mB (fi:=bB (fI 30)) (nT:=1) (cap:=[]) (tg:=fM 0) (List.range 30) (λ(k:Nat)=>.int (k:Int)) (λ(k:Nat)=>row 9999 ("death" : Str) [.int 7,.str (cR k)]) ?_ (by simp) λk hk=>?_
     ·rw[db (j:=30) (b:=false) rfl (by decide)];simp[bA]
     ·refine⟨_,rfl,false,ai (ds:=[.int 9999,.tup [.str "death",.int 7,.str (cR k)]]) (aq (b:=false) rfl (aq (b:=false) (ai (ds:=[.str "death",.int 7,.str (cR k)]) (aq (b:=false) rfl (aq (b:=false) rfl (aq (b:=false) (ai (ds:=[.int (k:Int)]) (by simp[fj]) (xk (List.mem_range.mp hk))) rfl))) (dL _ (by simp))) rfl)) (dL _ (by simp))⟩
    let qr:D:=.tup [.int 9,.tup [.str "root",.str "q",.int 1,.int 1,.str "open"]];obtain⟨a1,H2⟩:=Go (w:=W) (b:=true) H1 ew (by omega);obtain⟨a2,H3⟩:=Go (a:=ak++W) (w:=[qr,qr]) (b:=true) (f:=yP (fA b9 (aa (fA aB (aa (fI 9) (aa (fA aB (aa (fS "root") (aa (fS "q") (aa (fI 1) (aa (fI 1) (aa (fS "open") af)))))) af))) af)) (fI 2)) H2 rfl (by simp;omega);have E2:jS (.lst ak) (.lst (ak++W++[qr,qr])):=.inr ⟨ak,W++[qr,qr],rfl,by simp,by simp;omega⟩;exact⟨_,_,λe=>aH (no H1 E0 m1) (aH (no H1 E0 m2) (gI (p9 (ES H1 E0 m3) (gI a1 a2)) e)),H3,E2⟩
   ·exact⟨ρ1,_,λe=>aH (no H1 E0 m1) (aH (no H1 E0 m2) (aH (no H1 E0 m3) e)),H1,E0⟩
 let c4:FT:=dQ (bD (fA aC (fV 3 (aa (fC (.ty "list")) af)))) (bD (f2 df (f2 bu (cH 2 4) (fI 2)) (fI 0)));have Kf:c4 ρ3=some (fY aK && decide (x4 % 2=0)):=iV (Ke H3 E3) λ_=>aN (b:=false) (aS (x:=.int (x4 % 2)) (y:=.int 0) (b1:=false) (b2:=false) (aS (x:=.int x4) (y:=.int 2) (b1:=false) (b2:=false) (ix H3 Gn) rfl (gw _ (by decide))) rfl (by simp));obtain⟨ρ4,t',e4,H4,h4⟩:∃ρ4 t',(∀ {k:FS}{r:Option Res},k ρ4=r->aD (di c4 (bt 3 (fA c8 (fV 3 af))) aU) k ρ3=r)/\lD ρ4 (l t')/\(t'=t∨∃q,t=.lst q/\t'=.tup q):=by
  cases hb:(fY aK && decide (x4 % 2=0)) with
  |false=>exact⟨ρ3,t,λe=>aH (Kf.trans (by rw[hb])) e,H3,.inl rfl⟩
  |true=>
   obtain⟨q,rfl⟩:∃q,t=.lst q:=by
    have:=zy E3;rw[show fY aK=true by simp at hb;exact hb.1]at this;cases t<;>first|exact⟨_,rfl⟩|cases this
   exact⟨_,.tup q,λe=>gI (p9 (Kf.trans (by rw[hb])) (sM (d:=.tup q) (b:=false) (ai (ds:=[.lst q]) (aq (H3.var (i:=3) rfl) rfl) rfl))) e,H3.setE 3 _ _,.inr ⟨q,rfl,rfl⟩⟩
 have rz:=xl c E3 h4;have hr:∀k:Int,fA cC (fV 3 (fV 4 (aa (f2 df (f2 bu (f2 ik (cH 2 4) (fI 2)) (fI 2)) (fI k)) af))) ρ4=some (.bl true,false):=λk=>
  ai (ds:=[t',at',.bl (decide (x4 / 2 % 2=k))]) (aq (H4.var (i:=3) rfl) (aq (H4.var (i:=4) rfl) (aq (b:=false) (aS (x:=.int (x4 / 2 % 2)) (y:=.int k) (b1:=false) (b2:=false) (aS (x:=.int (x4 / 2)) (y:=.int 2) (b1:=false) (b2:=false) (aS (x:=.int x4) (y:=.int 2) (b1:=false) (b2:=false) (ix H4 Gn) rfl (Eo _ (by decide) (by decide))) rfl (gw _ (by decide))) rfl (by simp)) rfl))) (pZ rz)
 have hpl:L.all (aM 39)=true:=List.all_eq_true.mpr λr hr=>by obtain⟨j,hj⟩:=List.mem_iff_getElem?.mp hr;exact(g.2 j r hj).plain
 have pt:aM 40 (.tup L)=true:=by simp only[aM];exact hpl
 have Mq:yB (.tup L) (.tup L)=some (.bl false,false):=by unfold yB;rw[if_pos ⟨pt,pt⟩,lf 40 _ pt];rfl
 have hl:=g.1;have vL:=H4.var (i:=1) (d:=.lst L) rfl;refine⟨false,aF rfl (gn (ds:=L) (ai (ds:=[.lst (ns.map .int),.int 40]) rfl eL) fL (gn (ds:=xs.map .int) (ai (ds:=[.int c0,.int 80,.int 5]) (aq (b:=false) (ai (ds:=[.lst (ns.map .int),.int 0]) rfl Mp) rfl) ex) fX ?_))⟩;refine(uq (a:=aK) (b:=at') (c:=true) (ai (ds:=[.lst L,.lst (xs.map .int)]) rfl ec)).trans ?_;refine e3 (e4 (aH (dY (p:=true) (aN (b:=false) (hr 0))) (aH (aN (b:=false) (aS (x:=.tup L) (y:=.tup L) (b1:=false) (b2:=false) (ai (ds:=[.lst L]) (aq vL rfl) (xg g.fine (by omega) fL (.inl rfl))) (ai (ds:=[.lst L]) (aq vL rfl) rfl) Mq)) (aR (hr 1)))))
end Lw
namespace Lw
open PySem PySem.Spec PyProof.Rows L2 DL
noncomputable def gy (i:Nat):Stmt:=PySem.Challenge.pw_sealchain_k10_no_registers.main.body.getD i (.Pass ⟨0,0,0,0⟩)
noncomputable def xm (s:Stmt):Stmt:=match s with
 |.ClassDef _ _ _ b _ _ _ _ _ _ _=>b.getD 0 (.Pass ⟨0,0,0,0⟩)
 |_=>.Pass ⟨0,0,0,0⟩
structure Gq (K:Frag)(C:Addr):Prop where
 raw:Raw K "NoRegister" (xm (gy 2)) C
 se:∃S,PySem.W.nsIn K mainGlobals "SealError" = some (some (.ref S))/\PySem.W.exmOne K (.ref C) (.ref S)=some true/\PySem.W.kitOne K (.ref C) (.ref S)=some true
 sf:PySem.W.exmOne K (.ref C) (.ref C)=some true/\PySem.W.kitOne K (.ref C) (.ref C)=some true
 ve:PySem.W.kitOne K (.ref C) (.type "ValueError")=some true
 nt:∃D,PySem.W.nsIn K mainGlobals "NoText" = some (some (.ref D))/\PySem.W.kitOne K (.ref C) (.ref D)=some false
 nw:∃D,PySem.W.nsIn K mainGlobals "NoWord" = some (some (.ref D))/\PySem.W.kitOne K (.ref C) (.ref D)=some false
 nn:∃D,PySem.W.nsIn K mainGlobals "NoNumber" = some (some (.ref D))/\PySem.W.kitOne K (.ref C) (.ref D)=some false
section
variable {X:Cx}{es oh:List Expr}{f:FE}{g:FA}{pos:Pos}{k:Nat}{a b:Expr}
theorem cb {c:Const}(h:JE X (.Constant c k pos) f)(hr:JA X es g):JA X (.Constant c k pos::es) (aa f g):=ag h hr
theorem dv (h:JE X (.Tuple oh k pos) f)(hr:JA X es g):JA X (.Tuple oh k pos::es) (aa f g):=ag h hr
theorem Et (h:JE X (.List oh pos) f)(hr:JA X es g):JA X (.List oh pos::es) (aa f g):=ag h hr
theorem Hd (h:JE X (.Dict [] [] pos) f)(hr:JA X es g):JA X (.Dict [] [] pos::es) (aa f g):=ag h hr
theorem qa {o:Operator}(h:JE X (.BinOp a o b pos) f)(hr:JA X es g):JA X (.BinOp a o b pos::es) (aa f g):=ag h hr
theorem Eu (h:JE X (.Subscript a b pos) f)(hr:JA X es g):JA X (.Subscript a b pos::es) (aa f g):=ag h hr
theorem xn {kw:List Keyword}(h:JE X (.Call a oh kw pos) f)(hr:JA X es g):JA X (.Call a oh kw pos::es) (aa f g):=ag h hr
end
structure Tx (w:World)(K:Frag)(mg:Str->Option Value):Prop where
 hX:∃h,K.In h/\h.Ns mainGlobals mg
 d0:dS K "is_whole" (gy 9)
 d1:dS K "is_day" (gy 10)
 d2:dS K "is_stretch" (gy 11)
 d3:dS K "is_matters" (gy 12)
 d4:dS K "is_name" (gy 21)
 d5:dS K "is_rule" (gy 23)
 d6:dS K "is_piece" (gy 22)
 d7:dS K "is_pieces" (gy 24)
 d8:dS K "is_change" (gy 25)
 d9:dS K "is_changes" (gy 26)
 d10:dS K "is_part" (gy 27)
 d11:dS K "is_deed" (gy 28)
 d12:dS K "word_of" (gy 31)
 d13:dS K "part_of" (gy 32)
 d14:dS K "day_of" (gy 33)
 d15:dS K "is_timely" (gy 29)
 d16:dS K "is_row" (gy 30)
 d17:dS K "root_offices" (gy 38)
 d18:dS K "is_second_root" (gy 39)
 d19:dS K "parts_in" (gy 34)
 d20:dS K "people_in" (gy 35)
 d21:dS K "count_people" (gy 40)
 d22:dS K "is_refused" (gy 41)
 d23:dS K "register_of" (gy 42)
 d24:dS K "_law_cell_at" (gy 44)
 d25:dS K "_law_stream" (gy 45)
 d26:dS K "_law_person" (gy 46)
 d27:dS K "_law_rows" (gy 47)
 d28:dS K "_law_no_row" (gy 48)
 d29:dS K "_law_crowded" (gy 49)
 d30:dS K "_law_case" (gy 50)
 d31:dS K "_law_right" (gy 51)
 d32:dS K "_law_refused" (gy 52)
 d33:dS K "law" (gy 53)
 cl:∃C,Gq K C
 nV:mg "ValueError" = none
 n0:mg "all" = none
 n1:mg "bool" = none
 n2:mg "int" = none
 n3:mg "isinstance" = none
 n4:mg "len" = none
 n5:mg "list" = none
 n6:mg "min" = none
 n7:mg "range" = none
 n8:mg "set" = none
 n9:mg "sorted" = none
 n10:mg "str" = none
 n11:mg "tuple" = none
 n12:mg "zip" = none
 k0:KC K mg "ALL_MATTERS" hV
 k1:KC K mg "LAST_DAY" kR
 k2:KC K mg "MOST_FURTHER" gJ
 k3:KC K mg "MOST_LETTERS" gK
 k4:KC K mg "MOST_PEOPLE" hZ
 k5:KC K mg "MOST_PIECES" fE
 k6:KC K mg "MOST_ROWS" dc
 k7:KD w K mg "PARTS" bW
 k8:KC K mg "PERSON_PARTS" cA
 k9:KC K mg "RULES" sF
section
variable {P:Program}{w:World}{K:Frag}{mg:Str->Option Value}{base:Heap}(T:Tx w K mg)
include T
theorem f0:Fn P w K mg base 1 "is_whole" cV:=T.d0.fq T.hX kS ["thing","least","most"] 3 λnd hr hu=>
  (bK (gA (ax aQ T.n3 aJ (bv 0 (ag (dm T.n2 DM) ae))) (gA (Bu (ax aQ T.n3 aJ (bv 0 (ag (dm T.n1 B5) ae)))) (gg (oB gY gY (ah 1) (ah 0) (ah 2))))))
theorem f1:Fn P w K mg base 2 "is_day" eP:=T.d1.fq T.hX pC ["thing"] 1 λnd hr hu=>
  (bK (cm (f0 T) hr (bv 0 (aY (ag (c7 T.k1) ae)))))
theorem f2:Fn P w K mg base 3 "is_stretch" dZ:=T.d2.fq T.hX iW ["thing"] 1 λnd hr hu=>
  (ao (cn (gu (fo (cK (cj (ax aQ T.n3 aJ (bv 0 (ag (dm T.n11 cP) ae))))) (fo (aL (vn hu) (ax da T.n4 cO (bv 0 ae)) al) (eI (cK (cj (cm (f1 T) hr (ag (bc 0) ae)))))))) eD)
   (bK (vk (eF B1 (bc 0) eE) (gg (gA (cm (f1 T) hr (ag (bc 0) ae)) (gg (eF rW (bc 0) (bc 0))))))))
theorem f3:Fn P w K mg base 2 "is_matters" ej:=T.d3.fq T.hX iX ["thing"] 1 λnd hr hu=>
  (bK (cm (f0 T) hr (bv 0 (aY (ag (c7 T.k0) ae)))))
theorem f4:Fn P w K mg base 1 "is_name" e7:=T.d4.fq T.hX mC ["thing"] 1 λnd hr hu=>
  (ao (cn (gu (fo (cK (cj (ax aQ T.n3 aJ (bv 0 (ag (dm T.n10 vq) ae))))) (eI (cK (oC gY gY al (ax da T.n4 cO (bv 0 ae)) (c7 T.k3)))))) eD)
   (bK (ax oP T.n0 oM (ag (hU ["sign"] (gG (ah 0)) fu (oB gY gY av (ah 0) av)) ae))))
theorem f5:Fn P w K mg base 1 "is_rule" mE:=T.d5.fq T.hX mD ["thing"] 1 λnd hr hu=>
  (bK (gA (ax aQ T.n3 aJ (bv 0 (ag (dm T.n10 vq) ae))) (gg (eF vp (ah 0) (c7 T.k9)))))
theorem f6:Fn P w K mg base 2 "is_piece" iz:=T.d6.fq T.hX kT ["thing"] 1 λnd hr hu=>
  (bK (bF (f4 T) hr))
theorem f7:Fn P w K mg base 3 "is_pieces" jB:=T.d7.fq T.hX jA ["thing"] 1 λnd hr hu=>
  (ao (cn (gu (fo (cK (cj (ax aQ T.n3 aJ (bv 0 (ag (dm T.n11 cP) ae))))) (eI (cK (oC gY gY al (ax da T.n4 cO (bv 0 ae)) (c7 T.k5)))))) eD)
   (bK (ax oP T.n0 oM (ag (hU ["piece"] (gG (ah 0)) fu (bF (f6 T) hr)) ae))))
theorem f8:Fn P w K mg base 3 "is_change" jD:=T.d8.fq T.hX jC ["thing"] 1 λnd hr hu=>
  (ao (cn (gu (fo (cK (cj (ax aQ T.n3 aJ (bv 0 (ag (dm T.n11 cP) ae))))) (eI (aL (vn hu) (ax da T.n4 cO (bv 0 ae)) al)))) eD)
   (bK (gA (cm (f0 T) hr (ag (bc 0) (aY (ag (aA rM (c7 T.k5) al) ae)))) (gg (cm (f6 T) hr (ag (bc 0) ae))))))
theorem f9:Fn P w K mg base 4 "is_changes" iZ:=T.d9.fq T.hX iY ["thing","places"] 1 λnd hr hu=>
  (ao (cn (gu (fo (cK (cj (ax aQ T.n3 aJ (bv 0 (ag (dm T.n11 cP) ae))))) (eI (cK (cj (ax oP T.n0 oM (ag (hU ["change"] (gG (ah 0)) fu (bF (f8 T) hr)) ae))))))) eD)
   (ao (sv ["change"] nd (gG (ah 0)) fu (bc 0))
   (bK (ax oP T.n0 oM (ag (hU ["place","later"] (vM T.n12 (ah 1) (bH (ah 1) (ce al) cc)) fu (eF rW (ah 0) (ah 1))) ae)))))
theorem f10:Fn P w K mg base 5 "is_part" bT:=T.d10.fq T.hX mF ["part","thing"] 2 λnd hr hu=>
  (ao (cn (gu (fo (aL (cU hu) (ah 0) av) (eI (aL (cU hu) (ah 0) av)))) (bF (f1 T) hr))
   (ao (cn (gu (fo (aL (cU hu) (ah 0) av) (fo (aL (cU hu) (ah 0) av) (eI (aL (cU hu) (ah 0) av))))) (bF (f4 T) hr))
   (ao (cn (aL (cU hu) (ah 0) av) (vk (eF B1 (ah 1) eE) (gg (bF (f4 T) hr))))
   (ao (cn (aL (cU hu) (ah 0) av) (bF (f3 T) hr))
   (ao (cn (aL (cU hu) (ah 0) av) (bF (f2 T) hr))
   (ao (cn (aL (cU hu) (ah 0) av) (cm (f0 T) hr (bv 1 (aY (ag (c7 T.k2) ae)))))
   (ao (cn (aL (cU hu) (ah 0) av) (bF (f5 T) hr))
   (ao (cn (aL (cU hu) (ah 0) av) (cm (f0 T) hr (bv 1 (aY (ag (aA rM (c7 T.k6) al) ae)))))
   (ao (cn (aL (cU hu) (ah 0) av) (bF (f7 T) hr))
   (bK (bF (f9 T) hr)))))))))))
theorem f11:Fn P w K mg base 6 "is_deed" ju:=T.d11.fq T.hX mG ["thing"] 1 λnd hr hu=>
  (ao (cn (gu (fo (cK (cj (ax aQ T.n3 aJ (bv 0 (ag (dm T.n11 cP) ae))))) (fo (aL (cU hu) (ax da T.n4 cO (bv 0 ae)) al) (eI (cK (cj (ax aQ T.n3 aJ (ag (bc 0) (ag (dm T.n10 vq) ae))))))))) eD)
   (ao (cn (gu (fo (tS T.k7 (bc 0)) (eI (aL (vn hu) (ax da T.n4 cO (bv 0 ae)) (aA aV al (ax da T.n4 cO (ag (nH T.k7 (bc 0)) ae))))))) eD)
   (bK (ax oP T.n0 oM (ag (hU ["part","value"] (vM T.n12 (nH T.k7 (bc 0)) (bH (ah 0) (ce al) cc)) fu (bF (f10 T) hr)) ae)))))
theorem CD:Fn P w K mg base 1 "word_of" bU:=T.d12.fq T.hX mH ["row"] 1 λnd hr hu=>
  (bK (cJ (bc 0) al))
theorem FJ:Fn P w K mg base 2 "part_of" de:=T.d13.fq T.hX mI ["row","part"] 2 λnd hr hu=>
  (bK (cJ (bc 0) (aA aV al (yO T.k7 (bF (CD T) hr) (ah 1)))))
theorem Ky:Fn P w K mg base 3 "day_of" ja:=T.d14.fq T.hX pD ["row"] 1 λnd hr hu=>
  (ao (cn (aL (cU hu) (bF (CD T) hr) av) eE)
   (bK (bF (FJ T) hr)))
theorem Kz:Fn P w K mg base 4 "is_timely" gL:=T.d15.fq T.hX jE ["row","day"] 1 λnd hr hu=>
  (ao (bq nd (bF (Ky T) hr))
   (ao (cn (aL B1 (ah 1) eE) eD)
   (ao (cn (gu (ij (aL (cU hu) (bF (CD T) hr) av) (gf (aL rW (bF (FJ T) hr) (ah 1))))) eD)
   (bK (eF gY (ah 1) (bc 0))))))
theorem K0:Fn P w K mg base 7 "is_row" dq:=T.d16.fq T.hX pE ["thing"] 1 λnd hr hu=>
  (ao (cn (gu (fo (cK (cj (ax aQ T.n3 aJ (bv 0 (ag (dm T.n11 cP) ae))))) (eI (aL (vn hu) (ax da T.n4 cO (bv 0 ae)) al)))) eD)
   (bK (gA (cm (f1 T) hr (ag (bc 0) ae)) (gA (cm (f11 T) hr (ag (bc 0) ae)) (gg (bF (Kz T) hr))))))
theorem K4:Fn P w K mg base 3 "root_offices" eQ:=T.d17.fq T.hX gM ["rows"] 1 λnd hr hu=>
  (bK (hU ["row"] (gG (ah 0)) (np (aL (cU hu) (bF (CD T) hr) av)) (bF (FJ T) hr)))
theorem K5:Fn P w K mg base 4 "is_second_root" dA:=T.d18.fq T.hX fR ["ahead","row"] 2 λnd hr hu=>
  (bK (gA (eF (cU hu) (bF (CD T) hr) av) (gg (eF vp (bF (FJ T) hr) (bF (K4 T) hr)))))
theorem K6:Fn P w K mg base 2 "parts_in" dB:=T.d19.fq T.hX kU ["row"] 1 λnd hr hu=>
  (bK (qS rfl T.n5 T.n12 (nH T.k7 (bF (CD T) hr)) (bH (bc 0) (ce al) cc)))
theorem K7:Fn P w K mg base 3 "people_in" cB:=T.d20.fq T.hX jF ["row","names"] 1 λnd hr hu=>
  (ao (sv ["part","value"] nd (gG (bF (K6 T) hr)) (np (gu (ij (aL vp (ah 0) (c7 T.k8)) (gf (aL yD (ah 1) eE))))) (ah 1))
   (bK (qO rfl T.n9 T.n8 (ah 1))))
theorem K8:Fn P w K mg base 4 "count_people" eT:=T.d21.fq T.hX gN ["rows","names","row"] 1 λnd hr hu=>
  (ao (bq nd (bQ ae))
   (ao (Ed (gG (ah 0)) (BI 2 nd) g9 (cy (BE (i:=1) (bF (K7 T) hr))))
   (bK (tQ rfl T.n4 T.n8 (ah 1)))))
theorem IN:Fn P w K mg base 8 "is_refused" bf:=T.d22.fq T.hX jb ["book","place"] 2 λnd hr hu=>
  (ao (cn (gu (fo (aL GD (ah 1) (c7 T.k6)) (eI (cK (cj (cm (K0 T) hr (ag (cJ (ah 0) (ah 1)) ae))))))) eD)
   (bK (vk (cm (K5 T) hr (ag (bH (ah 0) cc (ce (ah 1))) (ag (cJ (ah 0) (ah 1)) ae))) (gg (eF DG (cm (K8 T) hr (ag (bH (ah 0) cc (ce (aA aV (ah 1) al))) ae)) (c7 T.k4))))))
theorem K9:Fn P w K mg base 9 "register_of" dG:=T.d23.fq T.hX ia ["rows","book","place"] 1 λnd hr hu=>
  (ao (gD (cK (cj (ax m5 T.n3 aJ (bv 0 (ag (aG (ag (dm T.n5 io) (ag (dm T.n11 cP) ae))) ae))))) (cy oZ) fw)
   (ao (bq nd (gT jX T.n11 cP (bv 0 ae)))
   (ao (w4 (iK T.n7 (ax da T.n4 cO (bv 1 ae))) (BI 2 nd) g9 (cy (gD (cj (bF (IN T) hr)) (cy oZ) fw)))
   (cy (nu 1)))))
theorem He {C:Addr}(c:Gq K C):FnX P w K mg base C "at" 9 "register_of" bp:=by
 have X1:Exc P w K mg base "NoRegister" C "at":=c.raw.exc T.hX;obtain⟨fI,fd,ps,i1,i2,i3,i4⟩:=X1.init;exact T.d23.fqX T.hX gx ["rows","book","place"] 1 λnd hr hu=>
  (nN (Aw (cK (cj (ax m5 T.n3 aJ (bv 0 (ag (aG (ag (dm T.n5 io) (ag (dm T.n11 cP) ae))) ae))))) (nO (p0 X1.ec i1 i2 i3 (hr.mono (by decide)) i4 X1.nm eE p5)) wH)
   (nN (BP (i:=1) nd (gT jX T.n11 cP (bv 0 ae)))
   (nN (za Eh rfl (iK T.n7 (ax da T.n4 cO (bv 1 ae))) (BI 2 nd) g9 (nO (Aw (cj (bF (IN T) hr)) (nO (p0 X1.ec i1 i2 i3 (hr.mono (by decide)) i4 X1.nm (ah 2) p5)) wH)))
   (nO wI))))
theorem KA:Fn P w K mg base 1 "_law_cell_at" gP:=T.d24.fq T.hX jG ["_law_script","_law_k"] 2 λnd hr hu=>
  (ao (cn (aL rW (ah 1) (ax da T.n4 cO (bv 0 ae))) (cJ (ah 0) (ah 1)))
   (bK al))
theorem IP:Fn P w K mg base 1 "_law_stream" eU:=T.d25.fq T.hX kW ["_law_cell","_law_salt","_law_many","_law_found","_law_number","_law_k"] 3 λnd hr hu=>
  (ao (bq nd (bQ ae))
   (ao (bq nd (aA bO (aA aV (aA aV (aA kA (aA bO (ah 0) al) al) (aA kA (aA kA (ah 1) (ah 1)) al)) al) al))
   (ao (w4 (iK T.n7 (ah 2)) (BI 5 nd) g9 (ao (bq nd (aA bO (aA aV (aA aV (aA aV (aA kA (ah 4) (ah 4)) (aA kA al (ah 4))) (ah 5)) (ah 1)) al))
   (cy (qA (i:=3) (ah 4)))))
   (cy (nu 3)))))
theorem A4:Fn P w K mg base 1 "_law_person" aE:=T.d26.fq T.hX kX ["_law_k"] 1 λnd hr hu=>
  (bK (aA aV (aA aV (cJ av (aA bO (ah 0) al)) (cJ av (aA bO (aA gC (ah 0) al) al))) (cJ av (aA gC (ah 0) al))))
theorem KG:Fn P w K mg base 2 "_law_rows" kY:=T.d27.fq T.hX pF ["_law_script","_law_most","_law_rows_here","_law_k","_law_xs"] 2 λnd hr hu=>
  (ao (bq nd (bQ ae))
   (ao (w4 (tT T.n7 al (ax DN T.n6 DK (ag (ax da T.n4 cO (bv 0 ae)) (ag (aA aV al (ah 1)) ae)))) (BI 3 nd) g9 (ao (bq nd (cm (IP T) hr (ag (cJ (ah 0) (ah 3)) (bv 3 (aY ae)))))
   (cy (gD (aL (cU hu) (aA bO (bc 4) al) al) (cy (qA (i:=2) (aG (ag (aA bO (bc 4) al) (ag (aG (ag av (ag (aA aV (aA aV (cJ av (aA bO (ah 3) al)) (cJ av (aA gC (ah 3) al))) av) (aY (aY (ag av ae)))))) ae))))) (cy (qA (i:=2) (aG (aY (ag (aG (ag av (ag (aA bO (bc 4) al) (ag (cm (A4 T) hr (ag (aA bO (bc 4) al) ae)) ae)))) ae)))))))))
   (cy (nu 2))))
theorem IQ:Fn P w K mg base 1 "_law_no_row" dC:=T.d28.fq T.hX kZ ["_law_x","_law_some"] 1 λnd hr hu=>by
  refine @ao _ _ _ _ _ ?_ ?_;refine @bq _ _ _ _ 1 _ _ nd ?_ rfl (by first|exact Or.inl rfl|exact Or.inr rfl) rfl (by first|exact .inl rfl|exact .inr rfl);refine @bQ _ _ _ _ ?_;refine cb ?_ ?_;exact eE;refine @aY _ _ _ _ _ _ ?_;refine cb ?_ ?_;exact eD;refine cb ?_ ?_;exact av;refine Et ?_ ?_;refine @bQ _ _ _ _ ?_;refine @aY _ _ _ _ _ _ ?_;refine dv ?_ ?_;refine @aG _ _ _ _ _ ?_;refine cb ?_ ?_;exact av;refine @aY _ _ _ _ _ _ ?_;refine cb ?_ ?_;exact av;exact ae;exact ae;refine dv ?_ ?_;refine @aG _ _ _ _ _ ?_;refine cb ?_ ?_;exact av;refine @aY _ _ _ _ _ _ ?_;refine cb ?_ ?_;exact av;exact ae;refine dv ?_ ?_;refine @aG _ _ _ _ _ ?_;refine @aY _ _ _ _ _ _ ?_;refine dv ?_ ?_;refine @aG _ _ _ _ _ ?_;refine cb ?_ ?_;exact av;refine @aY _ _ _ _ _ _ ?_;refine cb ?_ ?_;exact av;exact ae;exact ae;refine dv ?_ ?_;refine @aG _ _ _ _ _ ?_;exact ae;exact ae;refine @ao _ _ _ _ _ ?_ ?_;refine @bq _ _ _ _ 1 _ _ nd ?_ rfl (by first|exact Or.inl rfl|exact Or.inr rfl) rfl (by first|exact .inl rfl|exact .inr rfl);refine @aA _ _ _ _ _ _ _ _ aV ?_ ?_;exact(ah 1);refine @bQ _ _ _ _ ?_;refine dv ?_ ?_;refine @aG _ _ _ _ _ ?_;refine @aY _ _ _ _ _ _ ?_;refine dv ?_ ?_;refine @aG _ _ _ _ _ ?_;refine cb ?_ ?_;exact av;refine @aY _ _ _ _ _ _ ?_;refine cb ?_ ?_;exact av;exact ae;exact ae;refine dv ?_ ?_;refine @aG _ _ _ _ _ ?_;refine @aY _ _ _ _ _ _ ?_;refine dv ?_ ?_;refine @aG _ _ _ _ _ ?_;refine cb ?_ ?_;exact av;refine cb ?_ ?_;exact av;refine @aY _ _ _ _ _ _ ?_;refine @aY _ _ _ _ _ _ ?_;refine cb ?_ ?_;exact av;exact ae;exact ae;refine dv ?_ ?_;refine @aG _ _ _ _ _ ?_;refine @aY _ _ _ _ _ _ ?_;refine dv ?_ ?_;refine @aG _ _ _ _ _ ?_;refine cb ?_ ?_;exact av;refine @aY _ _ _ _ _ _ ?_;refine cb ?_ ?_;exact av;refine @aY _ _ _ _ _ _ ?_;exact ae;exact ae;exact ae;refine @ao _ _ _ _ _ ?_ ?_;refine @bq _ _ _ _ 1 _ _ nd ?_ rfl (by first|exact Or.inl rfl|exact Or.inr rfl) rfl (by first|exact .inl rfl|exact .inr rfl);refine @aA _ _ _ _ _ _ _ _ aV ?_ ?_;exact(ah 1);refine @bQ _ _ _ _ ?_;refine dv ?_ ?_;refine @aG _ _ _ _ _ ?_;refine @aY _ _ _ _ _ _ ?_;refine dv ?_ ?_;refine @aG _ _ _ _ _ ?_;refine cb ?_ ?_;exact av;refine cb ?_ ?_;exact av;refine @aY _ _ _ _ _ _ ?_;refine @aY _ _ _ _ _ _ ?_;refine cb ?_ ?_;exact av;exact ae;exact ae;refine dv ?_ ?_;refine @aG _ _ _ _ _ ?_;refine @aY _ _ _ _ _ _ ?_;refine dv ?_ ?_;refine @aG _ _ _ _ _ ?_;refine cb ?_ ?_;exact av;refine @aY _ _ _ _ _ _ ?_;refine cb ?_ ?_;exact av;refine @aY _ _ _ _ _ _ ?_;exact ae;exact ae;refine dv ?_ ?_;refine @aG _ _ _ _ _ ?_;refine @aY _ _ _ _ _ _ ?_;refine Et ?_ ?_;refine @bQ _ _ _ _ ?_;refine cb ?_ ?_;exact av;refine @aY _ _ _ _ _ _ ?_;refine cb ?_ ?_;exact av;exact ae;exact ae;exact ae;refine @ao _ _ _ _ _ ?_ ?_;refine @bq _ _ _ _ 1 _ _ nd ?_ rfl (by first|exact Or.inl rfl|exact Or.inr rfl) rfl (by first|exact .inl rfl|exact .inr rfl);refine @aA _ _ _ _ _ _ _ _ aV ?_ ?_;exact(ah 1);refine @bQ _ _ _ _ ?_;refine dv ?_ ?_;refine @aG _ _ _ _ _ ?_;refine @aY _ _ _ _ _ _ ?_;refine dv ?_ ?_;refine @aG _ _ _ _ _ ?_;refine cb ?_ ?_;exact av;refine @aY _ _ _ _ _ _ ?_;refine cb ?_ ?_;exact av;exact ae;exact ae;refine dv ?_ ?_;refine @aG _ _ _ _ _ ?_;refine @aY _ _ _ _ _ _ ?_;refine dv ?_ ?_;refine @aG _ _ _ _ _ ?_;refine cb ?_ ?_;exact av;refine @aY _ _ _ _ _ _ ?_;refine cb ?_ ?_;exact av;refine cb ?_ ?_;exact av;refine @aY _ _ _ _ _ _ ?_;refine dv ?_ ?_;refine @aG _ _ _ _ _ ?_;refine @aY _ _ _ _ _ _ ?_;refine @aY _ _ _ _ _ _ ?_;exact ae;refine @aY _ _ _ _ _ _ ?_;exact ae;exact ae;refine dv ?_ ?_;refine @aG _ _ _ _ _ ?_;refine @aY _ _ _ _ _ _ ?_;refine dv ?_ ?_;refine @aG _ _ _ _ _ ?_;refine cb ?_ ?_;exact av;refine @aY _ _ _ _ _ _ ?_;refine cb ?_ ?_;exact av;exact ae;exact ae;exact ae;exact(bK (cJ (ah 1) (aA bO (ah 0) (ax da T.n4 cO (bv 1 ae)))))
theorem KH:Fn P w K mg base 2 "_law_crowded" dI:=T.d29.fq T.hX jI ["_law_rows_here","_law_xs","_law_found","_law_last","_law_some","_law_at"] 2 λnd hr hu=>by
  refine @ao _ _ _ _ _ ?_ ?_;exact(sv [ "_law_k" ] nd (gE T.n7 al) fu (aG (aY (ag (aG (ag av (aY (ag (bF (A4 T) hr) ae)))) ae))));refine @ao _ _ _ _ _ ?_ ?_;refine @bq _ _ _ _ 3 _ _ nd ?_ rfl (by first|exact Or.inl rfl|exact Or.inr rfl) rfl (by first|exact .inl rfl|exact .inr rfl);refine @aG _ _ _ _ _ ?_;refine cb ?_ ?_;exact av;refine @aY _ _ _ _ _ _ ?_;refine xn ?_ ?_;exact(cm (A4 T) hr (aY ae));refine xn ?_ ?_;exact(cm (A4 T) hr (ag (aA bO (bc 1) al) ae));refine @aY _ _ _ _ _ _ ?_;refine dv ?_ ?_;refine @aG _ _ _ _ _ ?_;refine @aY _ _ _ _ _ _ ?_;refine cb ?_ ?_;exact eE;exact ae;refine @aY _ _ _ _ _ _ ?_;exact ae;refine @ao _ _ _ _ _ ?_ ?_;refine gD (aL (cU hu) (aA bO (bc 1) al) al) ?_ ?_;refine cy ?_;refine @bq _ _ _ _ 3 _ _ nd ?_ rfl (by first|exact Or.inl rfl|exact Or.inr rfl) rfl (by first|exact .inl rfl|exact .inr rfl);refine @aG _ _ _ _ _ ?_;refine cb ?_ ?_;exact av;refine @aY _ _ _ _ _ _ ?_;refine xn ?_ ?_;exact(cm (A4 T) hr (ag (aA bO (bc 1) al) ae));refine @aY _ _ _ _ _ _ ?_;refine dv ?_ ?_;refine @aG _ _ _ _ _ ?_;refine @aY _ _ _ _ _ _ ?_;refine cb ?_ ?_;exact eE;exact ae;refine xn ?_ ?_;exact(cm (A4 T) hr (aY ae));refine dv ?_ ?_;refine @aG _ _ _ _ _ ?_;refine cb ?_ ?_;exact av;exact ae;exact ae;exact fw;refine @ao _ _ _ _ _ ?_ ?_;exact(bq nd (aA aV (bH (ah 2) (ce (aA bO (bc 1) al)) cc) (bH (ah 2) cc (ce (aA bO (bc 1) al)))));refine @ao _ _ _ _ _ ?_ ?_;exact(bq nd (bH (hU [ "_law_row" ] (gG (ah 0)) (np (aL (cU hu) (cJ (bc 0) al) av)) (ah 0)) cc (ce al)));refine @ao _ _ _ _ _ ?_ ?_;exact(bq nd (aA bO (bc 1) (aA aV (ax da T.n4 cO (bv 4 ae)) al)));refine bK ?_;refine @bQ _ _ _ _ ?_;refine qa ?_ ?_;refine @aA _ _ _ _ _ _ _ _ aV ?_ ?_;refine @aA _ _ _ _ _ _ _ _ aV ?_ ?_;exact(aA aV (bH (ah 4) cc (ce (ah 5))) (ah 2));refine @bQ _ _ _ _ ?_;refine dv ?_ ?_;refine @aG _ _ _ _ _ ?_;refine @aY _ _ _ _ _ _ ?_;refine bv 3 ?_;exact ae;exact ae;exact(bH (ah 4) (ce (ah 5)) cc);refine qa ?_ ?_;exact(aA aV (ah 5) al);exact ae
theorem KI:Fn P w K mg base 3 "_law_case" la:=T.d30.fq T.hX pG ["_law_rows_here","_law_xs","_law_form","_law_at","_law_there","_law_first","_law_second","_law_more"] 2 λnd hr hu=>by
  refine @ao _ _ _ _ _ ?_ ?_;exact(bq nd (aA bO (bc 1) al));refine @ao _ _ _ _ _ ?_ ?_;exact(bq nd (aA bO (bc 1) (aA aV (ax da T.n4 cO (bv 0 ae)) al)));refine @ao _ _ _ _ _ ?_ ?_;refine cn (aL (cU hu) (ah 2) al) ?_;refine @bQ _ _ _ _ ?_;refine Eu ?_ ?_;refine cJ (hs:=?_) ?_ ?_;refine @bQ _ _ _ _ ?_;refine cb ?_ ?_;exact eE;refine @aY _ _ _ _ _ _ ?_;refine cb ?_ ?_;exact av;refine Hd ?_ ?_;exact El;refine cb ?_ ?_;exact eD;refine cb ?_ ?_;exact av;refine dv ?_ ?_;refine @aG _ _ _ _ _ ?_;refine @aY _ _ _ _ _ _ ?_;refine @aY _ _ _ _ _ _ ?_;exact ae;exact ae;exact(aA bO (bc 1) al);intro _ _;rfl;refine cb ?_ ?_;exact eE;exact ae;refine @ao _ _ _ _ _ ?_ ?_;exact(cn (aL (cU hu) (ah 2) al) (bF (KH T) hr));refine @ao _ _ _ _ _ ?_ ?_;exact(sv [ "_law_k" ,"_law_rows_here" ] nd (gE T.n7 (ax da T.n4 cO (bv 0 ae))) (np (aL (cU hu) (cJ (cJ (cJ (ah 1) (ah 0)) al) al) av)) (ah 0));refine @ao _ _ _ _ _ ?_ ?_;refine gD (gu (ij (aL (cU hu) (ah 2) al) (gf (aL DG (ax da T.n4 cO (bv 4 ae)) al)))) ?_ ?_;refine @ao _ _ _ _ _ ?_ ?_;exact(bq nd (cJ (ah 4) (aA bO (bc 1) (ax da T.n4 cO (bv 4 ae)))));refine @ao _ _ _ _ _ ?_ ?_;refine @bq _ _ _ _ 6 _ _ nd ?_ rfl (by first|exact Or.inl rfl|exact Or.inr rfl) rfl (by first|exact .inl rfl|exact .inr rfl);refine @aG _ _ _ _ _ ?_;refine qa ?_ ?_;exact(aA bO (bc 1) al);refine dv ?_ ?_;refine @aG _ _ _ _ _ ?_;refine cb ?_ ?_;exact av;refine Eu ?_ ?_;exact(cJ (cJ (cJ (ah 0) (ah 5)) al) al);refine qa ?_ ?_;exact(aA aV al (aA bO (bc 1) al));refine @aY _ _ _ _ _ _ ?_;refine cb ?_ ?_;exact av;exact ae;exact ae;refine @ao _ _ _ _ _ ?_ ?_;refine cn (aL gY (ah 3) (ah 5)) ?_;refine @bQ _ _ _ _ ?_;refine qa ?_ ?_;refine @aA _ _ _ _ _ _ _ _ aV ?_ ?_;refine @aA _ _ _ _ _ _ _ _ aV ?_ ?_;exact(bH (ah 0) cc (ce (ah 3)));refine @bQ _ _ _ _ ?_;refine bv 6 ?_;exact ae;exact(bH (ah 0) (ce (ah 3)) cc);refine qa ?_ ?_;exact(aA aV (ah 5) al);exact ae;refine bK ?_;refine @bQ _ _ _ _ ?_;refine qa ?_ ?_;refine @aA _ _ _ _ _ _ _ _ aV ?_ ?_;refine @aA _ _ _ _ _ _ _ _ aV ?_ ?_;exact(bH (ah 0) cc (ce (ah 3)));refine @bQ _ _ _ _ ?_;refine bv 6 ?_;exact ae;exact(bH (ah 0) (ce (ah 3)) cc);refine bv 3 ?_;exact ae;exact fw;refine @ao _ _ _ _ _ ?_ ?_;refine gD (aL (cU hu) (ah 2) al) ?_ ?_;refine @ao _ _ _ _ _ ?_ ?_;refine @bq _ _ _ _ 7 _ _ nd ?_ rfl (by first|exact Or.inl rfl|exact Or.inr rfl) rfl (by first|exact .inl rfl|exact .inr rfl);refine @aA _ _ _ _ _ _ _ _ aV ?_ ?_;exact(ah 0);exact(hU [ "_law_k" ] (gE T.n7 (aA rM al (ax da T.n4 cO (bv 0 ae)))) fu (aG (aY (ag (aG (ag av (bv 0 (ag av ae)))) ae))));refine bK ?_;refine @bQ _ _ _ _ ?_;refine bv 7 ?_;refine @aY _ _ _ _ _ _ ?_;exact ae;exact fw;refine bK ?_;refine @bQ _ _ _ _ ?_;refine qa ?_ ?_;refine @aA _ _ _ _ _ _ _ _ aV ?_ ?_;refine @aA _ _ _ _ _ _ _ _ aV ?_ ?_;exact(bH (ah 0) cc (ce (ah 3)));refine @bQ _ _ _ _ ?_;refine xn ?_ ?_;exact(cm (IQ T) hr (ag (bc 1) ae));exact ae;exact(bH (ah 0) (ce (ah 3)) cc);refine bv 3 ?_;exact ae
theorem KJ {C:Addr}(c:Gq K C):FnS P w K mg base 1 "_law_right" (IK C "at"):=by
 have ⟨_,KX,G⟩:=T.hX;obtain⟨S,s1,_,s3⟩:=c.se;obtain⟨D1,d1,e1⟩:=c.nt;obtain⟨D2,d2,e2⟩:=c.nw;obtain⟨D3,d3,e3⟩:=c.nn;have AF:∀(D:Addr) u',L2.aI (.ref D) u'->u'=Value.ref D:=λD u' h=>h;have Cw:∀(n:String) u',L2.aI (.ty n) u'->u'=Value.type n:=λn u' h=>h;refine T.d31.fqS (k:=0) T.hX ["_law_error","_law_at"] 2 (λvs H Q E ⟨e,dx,v,w,ev,_⟩=>by rw[ev];rfl) λ{f bL A outer s H E vs Q} nd hr h=>?_;have hm:=λ{x:PySem.Str}{D:Addr}(q:PySem.W.nsIn K mainGlobals x=some (some (.ref D)))=>mg_of KX G q;refine⟨_,e8 (lV (oo (mN (js (i:=0) (name:="at") (v:=.ref C) c.raw.ei T.n3 (by rfl) (by exact .inl rfl) (dW (by rfl) (hm c.raw.nm) rfl) (AF C) c.sf.2)) (oo (mN (js (i:=0) (name:="at") (v:=.ref S) c.raw.ei T.n3 (by rfl) (by exact .inl rfl) (dW (by rfl) (hm s1) rfl) (AF S) s3)) (qi (mN (js (i:=0) (name:="at") (v:=.ty "ValueError") c.raw.ei T.n3 (by rfl) (by exact .inl rfl) (jV (by rfl) T.nV rfl rfl) (Cw _) c.ve))))).pt (dE (ie u8)) iG)
  (e8 (lV (oo (js (i:=0) (name:="at") (v:=.ref D1) c.raw.ei T.n3 (by rfl) (by exact .inl rfl) (dW (by rfl) (hm d1) rfl) (AF D1) e1) (oo (js (i:=0) (name:="at") (v:=.ref D2) c.raw.ei T.n3 (by rfl) (by exact .inl rfl) (dW (by rfl) (hm d2) rfl) (AF D2) e2) (qi (js (i:=0) (name:="at") (v:=.ref D3) c.raw.ei T.n3 (by rfl) (by exact .inl rfl) (dW (by rfl) (hm d3) rfl) (AF D3) e3)))).pt (dE (ie u8)) iG)
  (e8 (lV (AR (uA (cf (i:=1) (by rfl) (by exact .inl rfl)))) (dE (ie (qg (uA (EX.sy c.raw.ei c.raw.na (cf (i:=0) (by rfl) (by exact .inl rfl))))))) iG)
  (dE (ie (mO (fJ wK (by rfl) T.n3 rfl (bI (EX.sy c.raw.ei c.raw.na (cf (i:=0) (by rfl) (by exact .inl rfl))) (bI (jV (v:=.ty "int") (by rfl) T.n2 rfl rfl) cS))) (mO (uB (fJ wK (by rfl) T.n3 rfl (bI (EX.sy c.raw.ei c.raw.na (cf (i:=0) (by rfl) (by exact .inl rfl))) (bI (jV (v:=.ty "bool") (by rfl) T.n1 rfl rfl) cS)))) (qj (qg (AQ (EX.sy c.raw.ei c.raw.na (cf (i:=0) (by rfl) (by exact .inl rfl))) (cf (i:=1) (by rfl) (by exact .inl rfl))))))))))),?_⟩
 obtain⟨e,dx,v,w,rfl,h1,h2,h3,q⟩:=h;have hx:∃v,HX C "at" 0 v (L2.cY ["_law_error","_law_at"] [.ref e,w]) H:=⟨v,e,dx,rfl,h1,h2⟩;refine And.intro hx (And.intro hx (And.intro hx (And.intro hx (And.intro hx (And.intro hx ?_)))));refine⟨w,rfl,_,rfl,?_⟩;rcases h3 with⟨rfl,rfl⟩|⟨k,rfl,rfl⟩
 ·exact⟨.ref e,rfl,e,dx,.non,rfl,h1,h2,q⟩
 ·exact⟨.ref e,rfl,e,dx,.int k,rfl,h1,h2,.int k,.type "int",.ty "int",.type "int",true,rfl,.int k,Cw _,(nB K (.int k) (λ_ z=>nomatch z)).1,true,rfl,.ref e,rfl,e,dx,.int k,rfl,h1,h2,.int k,.type "int",.ty "bool",.type "bool",false,rfl,.int k,Cw _,(nB K (.int k) (λ_ z=>nomatch z)).2.1,false,rfl,true,rfl,.ref e,rfl,e,dx,.int k,rfl,h1,h2,.int k,rfl,k,k,rfl,rfl,by show Q (.bl (decide (k=k))) H;rw[decide_eq_true rfl];exact q⟩
theorem IS:Fn P w K mg base 10 "_law_refused" cC:=by
 have ⟨_,KX,G⟩:=T.hX;obtain⟨C,c⟩:=T.cl;obtain⟨S,s1,s2,_⟩:=c.se;obtain⟨ad,fd,ps,F1,m1,k1,b1⟩:=(He (P:=P) (w:=w) (base:=base) T c).ex;obtain⟨MO,MP,MQ,F2,m2,k2,b2⟩:=(KJ (P:=P) (w:=w) (base:=base) T c).ex;have hm:=λ{x:PySem.Str}{D:Addr}(q:PySem.W.nsIn K mainGlobals x=some (some (.ref D)))=>mg_of KX G q;refine FnS.fn (T.d32.fqS (k:=9) T.hX ["_law_thing","_law_at","_law_base","_law_caught","_law_error"] 3 ?len λ{f bL A outer s H E vs Q} nd hr h=>?_)
 case len=>
  rintro vs H Q E ⟨B,ds,d,b,_,i,e,_⟩
  rw[i.length]
  unfold cC at e
  split at e
  ·rfl
  ·cases e
 refine⟨_,e8 (mQ (i:=3) nd (by rfl) (by exact .inl rfl) u9)
  (e8 (lV (qh (cf (i:=2) (by rfl) (by exact .inl rfl))) (dE (EX.wJ (i:=3) (j:=4) (C:=C) (D:=S) F1 hr (by rfl) m1 k1 b1 (bI (cf (i:=0) (by rfl) (by exact .inl rfl)) cS) (by rfl) (by rfl) nd (by rfl) (by rfl) (by rfl) (by rfl) (by rfl) (hm s1) s2))
   (dE (EX.wJ (i:=3) (j:=4) (C:=C) (D:=C) F1 hr (by rfl) m1 k1 b1 (bI (cf (i:=0) (by rfl) (by exact .inl rfl)) cS) (by rfl) (by rfl) nd (by rfl) (by rfl) (by rfl) (by rfl) (by rfl) (hm c.raw.nm) c.sf.1)))
  (dE (ie (mO (qg (xT (cf (i:=3) (by rfl) (by exact .inl rfl)))) (qj (rC F2 (hr.mono (by decide)) (by rfl) m2 k2 b2 .nil (E:=λ_ _ _=>False) Ad (bI (cf (i:=3) (by rfl) (by exact .inl rfl)) (bI (cf (i:=1) (by rfl) (by exact .inl rfl)) cS)))))))),?_⟩
 obtain⟨B,ds,d,b,sB,i,e,q⟩:=h;obtain⟨th,a,bs,rfl,e⟩:∃th a bs,ds=[th,a,.bl bs]/\((bp [th]).bind λr=>if lb r.1 a=true then some (.bl true,false)else none)=some (d,b):=by
  unfold cC at e;split at e
  ·exact⟨_,_,_,rfl,e⟩
  ·cases e
 obtain⟨r,er,e⟩:=oX e;split at e
 case isFalse=>cases e
 rename_i hs;cases e
 cases i with|cons i0 i=>?_
 cases i with|cons i1 i=>?_
 cases i with|cons i2 i=>?_
 cases i
 cases i2
 rename_i v0 v1;have key:∀(Dn:Ends),(∀e2 dx v H2 N,Ext B N H H2->Is K N v r.1->H2 e2=some (EX.XO e2 C (some dx))->H2 dx=some (.xd [("at",v)])->Dn.nx [some v0,some v1,some (.bl bs),some (.ref e2),none] H2) ->
   EX.Ej (FH K C "at" bp) (kl (om 0) tm) C 3 4 Dn [some v0,some v1,some (.bl bs),some .non,none] H:=λDn k=>by
  refine⟨v0,rfl,B,[th],r.1,r.2,sB,.cons i0 .nil,er,λv H' N x iv _ e dx t0 h1 h2 h3=>⟨dx,_,rfl,rfl,sA h3,λe2 Fm=>?_⟩⟩;exact k e2 dx v _ N (x.trans (Ext.grow x.nh (uc h1 h2))) iv Fm (sA h3)
 have g0:∀e2 dx v H2 N,Ext B N H H2->Is K N v r.1->H2 e2=some (EX.XO e2 C (some dx))->H2 dx=some (.xd [("at",v)]) ->
   xV (zU (zS (om 3)) (Ab (IK C "at") [] (λ_ _ _=>False) (kl (om 3) (kl (om 1) tm)))) { nx:=λ_ H'=>Q .non H',rt:=Q } [some v0,some v1,some (.bl bs),some (.ref e2),none] H2:=λe2 dx v H2 N x iv he hd=>by
  refine⟨.ref e2,rfl,true,rfl,.ref e2,rfl,v1,rfl,e2,dx,v,v1,rfl,he,hd,?_,q (.bl true) H2 N x (.bl true) (λz=>nomatch z)⟩;obtain⟨r1,r2⟩:=r;cases iv<;>cases i1<;>first|(cases hs;done)|exact .inl ⟨rfl,rfl⟩|exact .inr ⟨_,rfl,by rw[of_decide_eq_true hs]⟩
 refine⟨.bl bs,rfl,bs,rfl,?_⟩;cases bs
 ·exact key _ g0
 ·exact key _ g0
theorem head {fa:Addr}(HC:mg "law" = some (.ref fa)):∃fd:FuncData,(∀(s:Shared)(u:Value),BindsTo s fd ⟨[u],[]⟩ [("_law_script",u)])/\∀base:Heap,K.In base->base.Ns mainGlobals mg->eZ P w K mg base ko 11 fa fd ["_law_script"] (xK K F_law):=by
 have S:FnScope ["_law_script","_law_rows_here","_law_xs","_law_thing","_law_at"] ["_law_script"] (ar (gy 53)):=by refine⟨rfl,rfl,rfl,?_,rfl,?_,?_⟩<;>decide +kernel
 have ⟨h,X,G⟩:=T.hX;exact dS.law T.d33 X G HC S (λ_ _ _ _ _ _ u=>rfl) λbase kb nb f bL A outer s H E hr=>have hu:=Bz hr;have nd:=S.nd;(show nZ _ _ A1 from
  (ao (bq nd (cm (KG T) hr (bv 0 (aY ae))))
   (ao (bq nd (cm (IP T) hr (ag (cm (KA T) hr (bv 0 (aY ae))) (aY (aY ae)))))
   (ao (yL (is:=[3,4]) (bF (KI T) hr) (BD rfl (fH (BI 3 nd) (fH (BI 4 nd) mP))))
   (ao (gD (gu (ij (cj (ax aQ T.n3 aJ (bv 3 (ag (dm T.n5 io) ae)))) (gf (aL (cU hu) (aA bO (aA gC (bc 2) al) al) al)))) (cy (bq nd (aA aV (ah 3) (bQ (ag (cm (IQ T) hr (ag (bc 2) ae)) ae))))) fw)
   (ao (gD (gu (ij (cj (ax aQ T.n3 aJ (bv 3 (ag (dm T.n5 io) ae)))) (gf (aL (cU hu) (aA bO (aA gC (bc 2) al) al) al)))) (cy (bq nd (aA aV (ah 3) (hU ["_law_k"] (gE T.n7 (aA rM al (ax da T.n4 cO (bv 3 ae)))) fu (aG (aY (ag (aG (ag av (aY (ag (cm (A4 T) hr (ag (aA bO (ah 0) al) ae)) ae)))) ae))))))) fw)
   (ao (gD (gu (ij (cj (ax aQ T.n3 aJ (bv 3 (ag (dm T.n5 io) ae)))) (gf (aL (cU hu) (aA bO (aA gC (bc 2) al) al) al)))) (ao (bq nd (aA aV (ah 3) (hU ["_law_k"] (gE T.n7 al) fu (aG (aY (ag (aG (ag av (aY (ag (bF (A4 T) hr) ae)))) ae))))))
   (cy (bq nd (aA aV (ah 3) (BH (bQ (ag (aG (aY (ag (aG (ag av (ag av (aY (aY (ag av ae)))))) ae))) ae)) al))))) fw)
   (ao (gD (gu (ij (cj (ax aQ T.n3 aJ (bv 3 (ag (dm T.n5 io) ae)))) (gf (aL (cU hu) (aA bO (bc 2) al) al)))) (cy (bq nd (gT jX T.n11 cP (bv 3 ae)))) fw)
   (ao (cn (cK (cj (cm (IS T) hr (bv 3 (bv 4 (ag (eF (cU hu) (aA bO (aA gC (bc 2) al) al) al) ae)))))) eD)
   (ao (cn (aL (vn hu) (bF (K9 T) hr) (gT jX T.n11 cP (bv 1 ae))) eD)
   (bK (cm (IS T) hr (bv 3 (bv 4 (ag (eF (cU hu) (aA bO (aA gC (bc 2) al) al) al) ae)))))))))))))))
end
open PySem.W (nsIn isClsIn typeIn subIn)
theorem cl_mk {K:Frag}{C S D1 D2 D3:Addr}(raw:Raw K "NoRegister" (xm (gy 2)) C)
  (a0:nsIn K mainGlobals "SealError" = some (some (.ref S))) (a1:isClsIn K S=true) (a2:typeIn K (.ref S)=some (.type "type")) (a3:subIn K (.ref C) (.ref S)=some true) (a4:subIn K (.ref S) (.type "BaseException")=some true)
  (b1:isClsIn K C=true) (b2:typeIn K (.ref C)=some (.type "type")) (b3:subIn K (.ref C) (.ref C)=some true) (b4:subIn K (.ref C) (.type "BaseException")=some true) (v:subIn K (.ref C) (.type "ValueError")=some true)
  (c0:nsIn K mainGlobals "NoText" = some (some (.ref D1))) (c1:isClsIn K D1=true) (c2:typeIn K (.ref D1)=some (.type "type")) (c3:subIn K (.ref C) (.ref D1)=some false)
  (d0:nsIn K mainGlobals "NoWord" = some (some (.ref D2))) (d1:isClsIn K D2=true) (d2:typeIn K (.ref D2)=some (.type "type")) (d3:subIn K (.ref C) (.ref D2)=some false)
  (e0:nsIn K mainGlobals "NoNumber" = some (some (.ref D3))) (e1:isClsIn K D3=true) (e2:typeIn K (.ref D3)=some (.type "type")) (e3:subIn K (.ref C) (.ref D3)=some false):∃C,Gq K C :=
 ⟨C,raw,⟨S,a0,p7 a1 a2 a3 a4,p6 a1 a2 a3⟩,⟨p7 b1 b2 b3 b4,p6 b1 b2 b3⟩,BR v,⟨D1,c0,jt b3 c1 c2 c3⟩,⟨D2,d0,jt b3 d1 d2 d3⟩,⟨D3,e0,jt b3 e1 e2 e3⟩⟩
end Lw
end
namespace PySem.W.Fast
def tw10183185566909781555:=()
def tw1865386158655889306:=()
def tw8407644843539280959:=()
def tw18084479388816705182:=()
def tw2474517686442826007:=()
def tw8488619272695592872:=()
def tw4604617769245223698:=()
def tw875691532473451125:=()
def tw16937978824375996399:=()
def tw16810422515836754972:=()
def tw6095475927802615247:=()
def tw10593838790461438710:=()
def tw9574748106735757342:=()
def tw7316478428378200763:=()
def tw8113299860201413888:=()
def tw11797709154130796467:=()
def tw9268561452595160668:=()
def tw14989829294706589943:=()
def tw15908989819092034954:=()
def tw10449931205409048127:=()
def tw190102391553935989:=()
def tw4743096441072631807:=()
def tw3328311188171570093:=()
def tw12738490514943892469:=()
def tw13521928888171010877:=()
def tw17001500311585226697:=()
def tw4569982571432390665:=()
def tw13087332470329421662:=()
def tw9689214193368273533:=()
def tw2282577409703618532:=()
def tw15889212216062798092:=()
def tw13350791729052151289:=()
def tw5131829424315794718:=()
def tw10909392727991416921:=()
def tw16217346678384158967:=()
def tw7027635547824410525:=()
def tw4469307185459832608:=()
def tw2096296206861317059:=()
def tw17011475077752804513:=()
def tw16620468151373060035:=()
def tw14835105851976917130:=()
def tw16642232867170705783:=()
def tw7582557777742647596:=()
def tw14021454088496007114:=()
def tw14413234604139456975:=()
def tw9123606478588220582:=()
def tw13268087142554804271:=()
def tw6764410314278091751:=()
def tw1669900378334472877:=()
def tw17592015532042560681:=()
def tw4546744684253046529:=()
def tw13128224272031496742:=()
def tw12754792745898553903:=()
def tw12623114272584119334:=()
def tw11787954581150335503:=()
def tw4489431517471013364:=()
def tw7217162405207816878:=()
def tw6468562752042609581:=()
def tw1764003364988975176:=()
def tw13185811587293742006:=()
def tw17802509210111134870:=()
def tw10355619035750949839:=()
def tw9322268118029066090:=()
def tw3906253614399830525:=()
def tw375094895610493641:=()
def tw2614097236463780327:=()
def tw15016951698298854110:=()
def tw18334465522636182302:=()
def tw7114278522517232027:=()
def tw5927072047474777152:=()
def tw15289845457685214797:=()
def tw15537348895947454396:=()
def tw2447439471712606018:=()
def tw16413577657800212701:=()
def tw17603280719198827835:=()
def tw4002267969923541254:=()
def tw3011603876683267588:=()
def tw14330524858054001437:=()
def tw14883329022486904702:=()
def tw2833408402962198663:=()
end PySem.W.Fast
open PySem PySem.W PyProof.Rows
set_option maxRecDepth 100000 in
set_option maxHeartbeats 0 in
theorem PySem.Challenge.cw_sealchain_k10_no_registers_holds : PySem.Challenge.rw_sealchain_k10_no_registers.Holds := by
 w_on; o_law; k_head; (case hw => w_witness2)
 k_fill
 refine' DL.walkB (l := PySem.Challenge.rw_sealchain_k10_no_registers) (k := 11) (x := ("_law_script" : PySem.Str)) (f := Lw.F_law) (L := [(("in_order" : PySem.Str), ?t0), (("has_seal" : PySem.Str), ?t1), (("is_first_death" : PySem.Str), ?t2), (("bases_by" : PySem.Str), ?t3), (("as_heard" : PySem.Str), ?t4)]) rfl rfl ⟨rfl, by decide, by decide⟩ (fun w h Y => PySem.W.kIn_of Y) ?T ?D ?F Lw.law_true
 case T =>
  intro w
  refine' DL.tabs_fit ?h0 ?h1 ?h2 ?h3 ?h4 ?ap ?nt
  (case h0 => refine' DL.tab_no ?a; (case a => k_is))
  (case h1 => refine' DL.tab_no ?a; (case a => k_is))
  (case h2 => refine' DL.tab_no ?a; (case a => k_is))
  (case h3 => refine' DL.tab_no ?a; (case a => k_is))
  (case h4 => refine' DL.tab_no ?a; (case a => k_is))
  (case ap => decide)
  (case nt => kernel_rfl)
 case D => kernel_rfl
 case F =>
  intro w mg fa h KX G hmg
  refine' Lw.head ⟨⟨h, KX, G⟩, ?d0, ?d1, ?d2, ?d3, ?d4, ?d5, ?d6, ?d7, ?d8, ?d9, ?d10, ?d11, ?d12, ?d13, ?d14, ?d15, ?d16, ?d17, ?d18, ?d19, ?d20, ?d21, ?d22, ?d23, ?d24, ?d25, ?d26, ?d27, ?d28, ?d29, ?d30, ?d31, ?d32, ?d33, Lw.cl_mk ?yraw ?ya0 ?ya1 ?ya2 ?ya3 ?ya4 ?yb1 ?yb2 ?yb3 ?yb4 ?yv ?yc0 ?yc1 ?yc2 ?yc3 ?yd0 ?yd1 ?yd2 ?yd3 ?ye0 ?ye1 ?ye2 ?ye3, PySem.W.mg_none_of KX G ?zV, PySem.W.mg_none_of KX G ?z0, PySem.W.mg_none_of KX G ?z1, PySem.W.mg_none_of KX G ?z2, PySem.W.mg_none_of KX G ?z3, PySem.W.mg_none_of KX G ?z4, PySem.W.mg_none_of KX G ?z5, PySem.W.mg_none_of KX G ?z6, PySem.W.mg_none_of KX G ?z7, PySem.W.mg_none_of KX G ?z8, PySem.W.mg_none_of KX G ?z9, PySem.W.mg_none_of KX G ?z10, PySem.W.mg_none_of KX G ?z11, PySem.W.mg_none_of KX G ?z12, DL.kc_of KX G ?k0, DL.kc_of KX G ?k1, DL.kc_of KX G ?k2, DL.kc_of KX G ?k3, DL.kc_of KX G ?k4, DL.kc_of KX G ?k5, DL.kc_of KX G ?k6, DL.kd_of KX G ?k7, DL.kc_of KX G ?k8, DL.kc_of KX G ?k9⟩ hmg
  iterate 34 (refine' DL.def_mk ?a ?l ?c ?k; (case a => k_is); (case l => k_is); (case c => k_is); (case k => k_is))
  (case yraw => refine' DL.raw_mk ?a0 ?a1 ?a2 ?a3 ?a4 ?a5 ?a6 ?a7 ?a8 ?a9 ?b0 ?b1 ?b2 ?b3 ?b4 ?b5 ?b6 ?b7; (case a0 => k_is); (case a1 => k_is); (case a2 => k_is); (case a3 => k_is); (case a4 => k_is); (case a5 => k_is); (case a6 => k_is); (case a7 => k_is); (case a8 => k_is); (case a9 => k_is); (case b0 => k_is); (case b1 => k_is); (case b2 => k_is); (case b3 => k_is); (case b4 => k_is); (case b5 => k_is); (case b6 => k_is); (case b7 => k_is))
  (case ya0 => k_is)
  (case ya1 => k_is)
  (case ya2 => k_is)
  (case ya3 => k_is)
  (case ya4 => k_is)
  (case yb1 => k_is)
  (case yb2 => k_is)
  (case yb3 => k_is)
  (case yb4 => k_is)
  (case yv => k_is)
  (case yc0 => k_is)
  (case yc1 => k_is)
  (case yc2 => k_is)
  (case yc3 => k_is)
  (case yd0 => k_is)
  (case yd1 => k_is)
  (case yd2 => k_is)
  (case yd3 => k_is)
  (case ye0 => k_is)
  (case ye1 => k_is)
  (case ye2 => k_is)
  (case ye3 => k_is)
  (case zV => k_is)
  (case z0 => k_is)
  (case z1 => k_is)
  (case z2 => k_is)
  (case z3 => k_is)
  (case z4 => k_is)
  (case z5 => k_is)
  (case z6 => k_is)
  (case z7 => k_is)
  (case z8 => k_is)
  (case z9 => k_is)
  (case z10 => k_is)
  (case z11 => k_is)
  (case z12 => k_is)
  (case k0 => refine' DL.const_int ?e; (case e => k_is))
  (case k1 => refine' DL.const_int ?e; (case e => k_is))
  (case k2 => refine' DL.const_int ?e; (case e => k_is))
  (case k3 => refine' DL.const_int ?e; (case e => k_is))
  (case k4 => refine' DL.const_int ?e; (case e => k_is))
  (case k5 => refine' DL.const_int ?e; (case e => k_is))
  (case k6 => refine' DL.const_int ?e; (case e => k_is))
  (case k7 => refine' DL.const_dict ?e ?l ?r ?s; (case e => k_is); (case l => k_is); (case r => refine' (DL.CRows.tup rfl ?l0 ?f0 (DL.CRows.tup rfl ?l1 ?f1 (DL.CRows.tup rfl ?l2 ?f2 (DL.CRows.tup rfl ?l3 ?f3 (DL.CRows.tup rfl ?l4 ?f4 (DL.CRows.tup rfl ?l5 ?f5 (DL.CRows.tup rfl ?l6 ?f6 (DL.CRows.tup rfl ?l7 ?f7 (DL.CRows.tup rfl ?l8 ?f8 (DL.CRows.tup rfl ?l9 ?f9 (DL.CRows.tup rfl ?l10 ?f10 (DL.CRows.tup rfl ?l11 ?f11 DL.CRows.nil)))))))))))); (case l0 => k_is); (case f0 => decide +kernel); (case l1 => k_is); (case f1 => decide +kernel); (case l2 => k_is); (case f2 => decide +kernel); (case l3 => k_is); (case f3 => decide +kernel); (case l4 => k_is); (case f4 => decide +kernel); (case l5 => k_is); (case f5 => decide +kernel); (case l6 => k_is); (case f6 => decide +kernel); (case l7 => k_is); (case f7 => decide +kernel); (case l8 => k_is); (case f8 => decide +kernel); (case l9 => k_is); (case f9 => decide +kernel); (case l10 => k_is); (case f10 => decide +kernel); (case l11 => k_is); (case f11 => decide +kernel)); (case s => decide +kernel))
  (case k8 => refine' DL.const_tup ?e ?l ?v; (case e => k_is); (case l => k_is); (case v => decide +kernel))
  (case k9 => refine' DL.const_tup ?e ?l ?v; (case e => k_is); (case l => k_is); (case v => decide +kernel))

