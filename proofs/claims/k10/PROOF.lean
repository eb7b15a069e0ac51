import PyProof.Rows.All
import Wide.All
import OpenK.AllK
import Wide.FinOn
import Lean
import PyProof.EqAt
import PyProof.EqKinds
import PyProof.TupleCall
import PyProof.AttrMissHeap
import KE.KIntText
import PyProof.ExcInit
import PyProof.ExcClass2
import PyProof.ExcFactsAll.ValueError
import PyProof.ExcBaseAll.ValueError
import PyProof.ExcArgs
import PyProof.InstStoreFacts
import KE.KTryMore
import PyProof.NsDelKeeps
import PyProof.RulesAs
import PySem.Challenge.RW_sealchain_k10_no_registers
set_option Elab.async false
set_option linter.all false
set_option maxRecDepth 100000
set_option bootstrap.genMatcherCode false
set_option compiler.extract_closed false
set_option maxHeartbeats 40000000
theorem mY {α:Type _}{a:α}(l:List α){k:List α}(h:a∈k):a∈l++k:=List.mem_append_right l h
theorem mZ {α:Type _}(b:α){a:α}{l:List α}(h:a∈l):a∈b::l:=List.mem_cons_of_mem b h
theorem mX {α:Type _}{a:α}{l:List α}:a∈a::l:=List.mem_cons_self
theorem oX {α β:Type _}{o:Option α}{f:α->Option β}{b:β}(h:o.bind f=some b):∃a,o=some a/\f a=some b:=Option.bind_eq_some_iff.mp h
theorem oY {α β:Type _}{f:α->β}{o:Option α}{b:β}(h:o.map f=some b):∃a,o=some a/\f a=b:=Option.map_eq_some_iff.mp h
def wX:=@PySem.wpAny_bind
def wY:=@PySem.wpAny_pure
def vZ:=@PySem.Heap.get?_push_of_some
def vY:=@PySem.Heap.get?_push_size
def vX:=@PySem.Heap.lt_size
def vW:=@PySem.Heap.SameBut.update
theorem vV {α:Type _}{l:List α}{i:Nat}{a:α}(h:l[i]? = some a):∃h:i<l.length,l[i]=a:=List.getElem?_eq_some_iff.mp h
theorem vU {α:Type _}{l:List α}{i:Nat}(h:i<l.length):l[i]? = some l[i]:=List.getElem?_eq_getElem h
theorem vT (n:Nat):n<=n:=Nat.le_refl n
theorem vS {a b:Nat}(h:a<b):a≠b:=Nat.ne_of_lt h
theorem vR {n m k:Nat}:n<=m->m<=k->n<=k:=Nat.le_trans
theorem vQ {n m k:Nat}:n<m->m<=k->n<k:=Nat.lt_of_lt_of_le
theorem vP {α:Type _}{a b:α}{l:List α}(h:b∈a::l):b=a∨b∈l:=List.mem_cons.mp h
theorem vO {α β:Type _}{b:β}{f:α->β}{l:List α}(h:b∈l.map f):∃a,a∈l/\f a=b:=List.mem_map.mp h
theorem vJ {α:Type _}{a b:α}(h:some a=some b):a=b:=Option.some.inj h
theorem vI {α β:Type _}(a:α)(f:α->Option β):(some a).bind f=f a:=rfl
theorem vH {α β:Type _}{as:List α}(f:α->β):(as.map f).length=as.length:=List.length_map f
theorem vG {α:Type _}{l:List α}:l.toArray.size=l.length:=rfl
theorem vF {α:Type _}{xs:Array α}:xs.toList.length=xs.size:=rfl
theorem vD {α:Type _}{a:α}{as:List α}:(a::as).length=as.length+1:=rfl
theorem vC (a b:Bool):((a && b)=true)=(a=true/\b=true):=Bool.and_eq_true a b
theorem vB {α:Type _}{i j:Nat}{a:α}{l:List α}(h:i≠j):(l.set i a)[j]? = l[j]?:=List.getElem?_set_ne h
theorem vA {α β:Type _}{f:α->β}{l:List α}{i:Nat}:(l.map f)[i]? = Option.map f l[i]?:=List.getElem?_map
theorem uZ {α:Type _}{as bs:List α}:(as++bs).length=as.length+bs.length:=List.length_append
theorem uX:false≠true:=Bool.false_ne_true
theorem uV:(false=true)=False:=Bool.false_eq_true
theorem uT {α:Type _}{a b:α}(h:a∈[b]):a=b:=List.mem_singleton.mp h
theorem uR {α:Type _}{l:List α}{p:α->Bool}(h:l.all p=true):∀x∈l,p x=true:=List.all_eq_true.mp h
theorem uQ {α:Type _}(as:List α):as++[]=as:=List.append_nil as
theorem uN (n:Nat):0<=n:=Nat.zero_le n
noncomputable section
open PySem.W (Frag kia_one fnOf mg_of)
namespace L2
open PySem PySem.Spec PyProof.Rows
abbrev iB:=Sum Int Str
noncomputable def zP:iB->Value->Bool
 |.inl k,v=>Value.isInt k v
 |.inr x,v=>Value.isStrOf x v
noncomputable def Gs (w:World):iB->Int
 |.inl k=>hashInt k
 |.inr x=>hashStr w x
theorem bW:∀ {k:iB}{v:Value},zP k v=true->(∃i t,k=Sum.inl i/\v=Value.int i t)∨(∃x t,k=Sum.inr x/\v=Value.str x t)
 |.inl i,v,h=>by
  obtain⟨t,e⟩:=Value.isInt_shape (k:=i) (v:=v) h;exact .inl ⟨i,t,rfl,e⟩
 |.inr x,v,h=>by
  obtain⟨t,e⟩:=Value.isStrOf_shape (x:=x) (v:=v) h;exact .inr ⟨x,t,rfl,e⟩
theorem AH (a b:Int):decide ((Sum.inl a:iB)=Sum.inl b)=(a == b):=by
 by_cases e:a=b
 ·subst e;simp
 ·have h:¬(Sum.inl a:iB)=Sum.inl b:=λq=>e (Sum.inl.inj q);rw[decide_eq_false h];exact(beq_eq_false_iff_ne.mpr e).symm
theorem AI (a b:Str):decide ((Sum.inr a:iB)=Sum.inr b)=decide (a=b):=by
 by_cases e:a=b
 ·subst e;simp
 ·have h:¬(Sum.inr a:iB)=Sum.inr b:=λq=>e (Sum.inr.inj q);rw[decide_eq_false h,decide_eq_false e]
theorem AJ (a:Int)(b:Str):decide ((Sum.inl a:iB)=Sum.inr b)=false:=decide_eq_false (λq=>nomatch q)
theorem AK (a:Str)(b:Int):decide ((Sum.inr a:iB)=Sum.inl b)=false:=decide_eq_false (λq=>nomatch q)
def r0 (prog:Program)(w:World):PySem.KeyKind prog w iB where
 is:=zP
 hash:=Gs w
 inj:=λv a b ha hb=>by
  rcases bW ha with⟨i,t,rfl,rfl⟩|⟨x,t,rfl,rfl⟩
  ·rcases bW hb with⟨j,u,rfl,e⟩|⟨y,u,rfl,e⟩
   ·injection e with e1 _;rw[e1]
   ·exact nomatch e
  ·rcases bW hb with⟨j,u,rfl,e⟩|⟨y,u,rfl,e⟩
   ·exact nomatch e
   ·injection e with e1 _;rw[e1]
 byValue:=λk v h=>by
  rcases bW h with⟨i,t,rfl,rfl⟩|⟨x,t,rfl,rfl⟩<;>rfl
 pyHash:=λhv h=>by
  rcases bW hv with⟨i,t,rfl,rfl⟩|⟨x,t,rfl,rfl⟩
  ·exact wpAny_pyHash_int h
  ·exact wpAny_pyHash_str h
 eqBool:=λhu hv h=>by
  rcases bW hu with⟨i,t,rfl,rfl⟩|⟨x,t,rfl,rfl⟩
  ·rcases bW hv with⟨j,u,rfl,rfl⟩|⟨y,u,rfl,rfl⟩
   ·rw[AH]at h;exact wpAny_eqBool_int h
   ·rw[AJ]at h;exact SeqAt.EqAt.int_str i t y u _ _ _ _ h
  ·rcases bW hv with⟨j,u,rfl,rfl⟩|⟨y,u,rfl,rfl⟩
   ·rw[AK]at h;exact SeqAt.EqAt.str_int x t j u _ _ _ _ h
   ·rw[AI]at h;exact wpAny_eqBool_str h
 «strs»:=λk x t v h=>by
  rcases bW h with⟨i,u,rfl,e⟩|⟨y,u,rfl,e⟩
  ·exact nomatch e
  ·injection e with e1 _;subst e1;cases v<;>rfl
inductive V where
 |non|bl (b:Bool)|int (i:Int)|str (x:Str)|byt (b:Array UInt8)|flt (b:UInt64)|ref (a:Addr)|ty (n:String)
 deriving DecidableEq
def aI:V->Value->Prop
 |.non,u=>u=Value.none
 |.bl b,u=>u=Value.bool b
 |.int i,u=>∃t,u=Value.int i t
 |.str x,u=>∃t,u=Value.str x t
 |.byt b,u=>∃t,u=Value.bytes b t
 |.flt b,u=>∃t,u=Value.float b t
 |.ref a,u=>u=Value.ref a
 |.ty n,u=>u=Value.type n
abbrev aT:List V->List Value->Prop:=Paired aI
theorem aT.length (r:aT xs us):xs.length=us.length:=Paired.length r
theorem aT.get:∀ {xs:List V}{us:List Value}{i:Nat}{x:V},aT xs us->xs[i]? = some x->∃u,us[i]? = some u/\aI x u
 |_,_,_,_,.nil,e=>by simp at e
 |_,_,0,_,.cons r _,e=>by simp at e;subst e;exact⟨_,rfl,r⟩
 |_,_,i+1,x,.cons _ t,e=>by
  obtain⟨u,h1,h2⟩:=aT.get (i:=i) (x:=x) t (by simpa using e);exact⟨u,by simpa using h1,h2⟩
theorem aT.set (r:aI x u):∀ {xs:List V}{us:List Value}(i:Nat),aT xs us->aT (xs.set i x) (us.set i u)
 |_,_,_,.nil=>.nil
 |_,_,0,.cons _ t=>.cons r t
 |_,_,i+1,.cons q t=>.cons q (aT.set r i t)
theorem aT.append:∀ {xs ys:List V}{us ws:List Value},aT xs us->aT ys ws->aT (xs++ys) (us++ws)
 |_,_,_,_,.nil,s=>s
 |_,_,_,_,.cons r t,s=>.cons r (aT.append t s)
theorem aT.take:∀ {xs:List V}{us:List Value}(n:Nat),aT xs us->aT (xs.take n) (us.take n)
 |_,_,0,_=>.nil
 |_,_,_+1,.nil=>.nil
 |_,_,n+1,.cons r t=>.cons r (aT.take n t)
theorem aT.drop:∀ {xs:List V}{us:List Value}(n:Nat),aT xs us->aT (xs.drop n) (us.drop n)
 |_,_,0,r=>r
 |_,_,_+1,.nil=>.nil
 |_,_,n+1,.cons _ t=>aT.drop n t
theorem aT.none_of:∀ {xs:List V}{us:List Value}{i:Nat},aT xs us->xs[i]? = none->us[i]? = none:=λ{xs us i} r e=>by
 have h1:=r.length;have h2:xs.length<=i:=List.getElem?_eq_none_iff.mp e;exact List.getElem?_eq_none_iff.mpr (by omega)
def lF:Option V->Option Value->Prop
 |some v,some u=>aI v u
 |none,none=>True
 |_,_=>False
def KV {κ:Type}:List (κ×V)->List (κ×Value)->Prop:=Paired λ(p:κ×V) (q:κ×Value)=>p.1=q.1/\aI p.2 q.2
noncomputable def kV:iB->V
 |.inl i=>.int i
 |.inr x=>.str x
inductive HO where
  |lst (xs:List V)
  |tup (xs:List V)
  |dK (b9:List (iB×V)) (ob:Obj)|dT (b9:List (List iB×V))
  |set (S:Int->Bool) (n:Nat)
  |ins (C dx:Addr) (fs:List (Str×V))
  |own (x:Addr)
  |xd (fs:List (Str×V))
  |met (f x:Addr)
  |rng (lo hi:Int)
  |frz (o:Obj) (u:HO)
  |tbl (q:Str)
  |ext (φ:Heap->Prop)
abbrev Hp:=Addr->Option HO
noncomputable def upd (H:Hp)(a:Addr)(o:HO):Hp:=λb=>if b=a then some o else H b
theorem aw:upd H a o a=some o:=by unfold upd;rw[if_pos rfl]
theorem au (h:b≠a):upd H a o b=H b:=by unfold upd;rw[if_neg h]
theorem jV:upd (upd H a o) a u=upd H a u:=by
 funext b;unfold upd;split<;>rfl
theorem aP {H:Hp}{a b:Addr}{o:HO}(h:H a=some o)(h':H b=none):a≠b:=by
 intro e;subst e;rw[h]at h';cases h'
section
variable (P:Program) (w:World)
def bD (H:Hp)(h:Heap)(a:Addr):HO->Prop
 |.lst xs=>xs.length<=sizeLine/\∃(its:List Value)(n:Nat),aT xs its/\h.get? a=some { cls:=.type "list",data:=.seq its.toArray n }
 |.tup xs=>xs.length<=sizeLine/\∃its:List Value,aT xs its/\IsTup h a its.toArray
 |.dK b9 ob=>h.get? a=some ob/\b9.length<=sizeLine/\(a == sysModules)=false/\∃vs,KV b9 vs/\h.DictOf (r0 P w) a vs
 |.dT b9=>b9.length<=sizeLine/\(a == sysModules)=false/\∃xs:List (List iB×Addr×Value),
   Paired (λ(p:List iB×V) (q:List iB×Addr×Value)=>p.1=q.1/\H q.2.1=some (.tup (p.1.map kV))/\aI p.2 q.2.2) b9 xs /\
   ∃o es ep,h.get? a=some o/\o.ExactDict/\o.data=.dict es ep/\es.toList=xs.map (entryOfKey (tupleKind (r0 P w)))/\(xs.map (·.1)).Nodup
 |.set S n=>h.SetOf (intKind P w) a S n
 |.ins C dx fs=>H dx=some (.own a)/\fs.length<=1000/\dx≠a/\h.get? a=some (PySem.W.instObj C dx) /\
   ∃mA,h.Ns1 dx mA/\(∀f,lF (fs.lookup f) (mA f))/\PySem.Within mA (fs.map (·.1))
 |.own _=>∃o,h.get? a=some o
 |.xd fs=>∃mA,h.Ns1 a mA/\∀f,lF (fs.lookup f) (mA f)
 |.rng lo hi=>∃t u v,h.get? a=some { cls:=.type "range",data:=.fields #[.int lo t,.int hi u,.int 1 v] }
 |.frz o u=>h.get? a=some o/\bD H h a u
 |.tbl q=>∃ps:Array Value,h.get? a=some { cls:=.none,data:=.fields ps }/\TriplesOk ps.toList/\∀pos cv,codeAmong pos ps.toList=some cv->∃(c:Addr)(oc:Obj)(u:HO)(vs:Array Value)(t:Tok),cv=.ref c/\H c=some (.frz oc u)/\oc.data=.fields vs/\vs[1]? = some (.str q t)
 |.met f x=>h.get? a=some (PySem.W.methodObj (.ref f) (.ref x))
 |.ext φ=>φ h/\(∃o,h.get? a=some o)/\∀h1 h2:Heap,φ h1->(∀o,h1.get? a=some o->h2.get? a=some o)->φ h2
def j4 (H:Hp)(h:Heap):Prop:=∀a o,H a=some o->bD P w H h a o
end
section
variable {P:Program}{w:World}{H H':Hp}{h h':Heap}{a:Addr}{o:HO}
theorem bD.lt (x:bD P w H h a o):a<h.objs.size:=by
 cases o with
 |lst xs=>obtain⟨_,_,_,_,e⟩:=x;exact vX e
 |tup xs=>obtain⟨_,_,_,p⟩:=x;exact p.lt
 |dK b9 ob=>exact vX (And.left x)
 |dT b9=>obtain⟨_,_,_,_,o,_,_,e,_⟩:=x;exact vX e
 |set S n=>obtain⟨o,_,_,_,e,_⟩:=x;exact vX e
 |ins C dx fs=>obtain⟨_,_,_,e,_⟩:=x;exact vX e
 |own y=>obtain⟨_,e⟩:=x;exact vX e
 |xd fs=>obtain⟨_,⟨_,_,_,e,_⟩,_⟩:=x;exact vX e
 |rng lo hi=>obtain⟨_,_,_,e⟩:=x;exact vX e
 |frz ob u=>obtain⟨e,_⟩:=x;exact vX e
 |tbl q=>obtain⟨_,e,_⟩:=x;exact vX e
 |met f y=>exact vX (show h.get? a=some _ from x)
 |ext φ=>obtain⟨_,⟨_,e⟩,_⟩:=x;exact vX e
theorem Paired.mapP {α β:Type}{F G:α->β->Prop}:∀ {l₁:List α}{l₂:List β},Paired F l₁ l₂->(∀a b,F a b->G a b)->Paired G l₁ l₂
 |_,_,.nil,_=>.nil
 |_,_,.cons r t,f=>.cons (f _ _ r) (Paired.mapP t f)
theorem bD.stay (x:bD P w H h a o)(k:∀b u,(b=a∨H b=some (.own a))->h.get? b=some u->h'.get? b=some u)
  (ho:∀b,H b=some (.own a)->H' b=some (.own a)) (ht:∀b xs,H b=some (.tup xs)->H' b=some (.tup xs)) (hf:∀b o u,H b=some (.frz o u)->H' b=some (.frz o u)):bD P w H' h' a o:=by
 induction o with
 |lst xs=>obtain⟨z,its,n,r,e⟩:=x;exact⟨z,its,n,r,k _ _ (.inl rfl) e⟩
 |tup xs=>obtain⟨z,its,r,ob,e,c⟩:=x;exact⟨z,its,r,ob,k _ _ (.inl rfl) e,c⟩
 |dK b9 KJ=>obtain⟨g,z,y,vs,r,ob,es,ep,e,c⟩:=x;exact⟨k _ _ (.inl rfl) g,z,y,vs,r,ob,es,ep,k _ _ (.inl rfl) e,c⟩
 |dT b9=>
  obtain⟨z,y,xs,r,ob,es,ep,e,c⟩:=x;exact⟨z,y,xs,Paired.mapP r λp q z=>⟨z.1,ht _ _ z.2.1,z.2.2⟩,ob,es,ep,k _ _ (.inl rfl) e,c⟩
 |set S n=>obtain⟨ob,es,ep,t,e,c⟩:=x;exact⟨ob,es,ep,t,k _ _ (.inl rfl) e,c⟩
 |ins C dx fs=>
  obtain⟨d,z,ne,e,mA,⟨od,es,ep,e2,c⟩,r⟩:=x;exact⟨ho _ d,z,ne,k _ _ (.inl rfl) e,mA,⟨od,es,ep,k _ _ (.inr d) e2,c⟩,r⟩
 |own y=>obtain⟨ob,e⟩:=x;exact⟨ob,k _ _ (.inl rfl) e⟩
 |xd fs=>obtain⟨mA,⟨od,es,ep,e,c⟩,r⟩:=x;exact⟨mA,⟨od,es,ep,k _ _ (.inl rfl) e,c⟩,r⟩
 |rng lo hi=>obtain⟨t,u,v,e⟩:=x;exact⟨t,u,v,k _ _ (.inl rfl) e⟩
 |frz ob u ih=>obtain⟨e,q⟩:=x;exact⟨k _ _ (.inl rfl) e,ih q⟩
 |tbl q=>obtain⟨ps,e,t,c⟩:=x;exact⟨ps,k a _ (.inl rfl) e,t,λpos cv z=>let ⟨d,oc,u,vs,tk,z1,z2,z3⟩:=c pos cv z;⟨d,oc,u,vs,tk,z1,hf _ _ _ z2,z3⟩⟩
 |met f y=>
  have e:h.get? a=some (PySem.W.methodObj (.ref f) (.ref y)):=x;show h'.get? a=some (PySem.W.methodObj (.ref f) (.ref y));exact k a _ (.inl rfl) e
 |ext φ=>obtain⟨p,⟨o,e⟩,st⟩:=x;exact⟨st _ _ p λo q=>k _ _ (.inl rfl) q,⟨o,k _ _ (.inl rfl) e⟩,st⟩
theorem j4.lt (x:j4 P w H h)(e:H a=some o):a<h.objs.size:=(x a o e).lt
theorem j4.fresh (x:j4 P w H h)(e:h.objs.size<=a):H a=none:=by
 cases q:H a with
 |none=>rfl
 |some u=>exact absurd (vQ (x.lt q) e) (Nat.lt_irrefl _)
theorem j4.kept (x:j4 P w H h)(k:∀b u,h.get? b=some u->h'.get? b=some u):j4 P w H h':=λa o e=>
 (x a o e).stay (λb u _ q=>k b u q) (λ_ q=>q) (λ_ _ q=>q) λ_ _ _ q=>q
theorem j4.laid (x:j4 P w H h)(k:∀b u,h.get? b=some u->h'.get? b=some u)(hp:h.objs.size<=a)(new:bD P w (upd H a o) h' a o):j4 P w (upd H a o) h':=λb u e=>by
 have hn:=x.fresh hp;by_cases hb:b=a
 ·subst hb;rw[aw]at e;cases e;exact new
 ·rw[au hb]at e;exact(x b u e).stay (λc v _ q=>k c v q) (λc q=>by rw[au (aP q hn)];exact q) (λc xs q=>by rw[au (aP q hn)];exact q) λc o xs q=>by rw[au (aP q hn)];exact q
end
def Rd (H:Hp)(a:Addr)(u:HO):Prop:=H a=some u∨∃o,H a=some (.frz o u)
theorem Rd.of (h:H a=some u):Rd H a u:=.inl h
theorem Rd.ok (r:Rd H a u)(x:j4 P w H h):bD P w H h a u:=by
 rcases r with r|⟨o,r⟩
 ·exact x a u r
 ·obtain⟨_,q⟩:=x a _ r;exact q
def F4:Option HO->Prop
 |some (.lst _)=>True
 |some (.dK _ _)=>True
 |some (.dT _)=>True
 |some (.set _ _)=>True
 |some (.ins _ _ _)=>True
 |some (.ext _)=>True
 |_=>False
section
variable {P:Program}{w:World}{H:Hp}{h h':Heap}{x e:Addr}{o':HO}
theorem j4.write (ok:j4 P w H h)(mu:F4 (H x))(he:e=x∨H e=some (.own x))(k:∀b u,b≠e->h.get? b=some u->h'.get? b=some u)(CG:∃u,h'.get? e=some u)
  (new:bD P w (upd H x o') h' x o'):j4 P w (upd H x o') h':=λb u q=>by
 have Ey:∀c y,H c=some (.own y)->c≠x:=λc y r z=>by subst z;rw[r]at mu;exact mu
 have Hg:∀c xs,H c=some (.tup xs)->c≠x:=λc xs r z=>by subst z;rw[r]at mu;exact mu
 by_cases hb:b=x
 ·subst hb;rw[aw]at q;cases q;exact new
 ·rw[au hb]at q;by_cases xM:b=e
  ·have q':H b=some (.own x):=by
    rcases he with z|z
    ·exact absurd (xM.trans z) hb
    ·rw[xM];exact z
   rw[q]at q';cases q';obtain⟨v,hv⟩:=CG;exact⟨v,by rw[xM];exact hv⟩
  ·refine(ok b u q).stay (λc v hc r=>k c v ?_ r) (λc r=>by rw[au (Ey c b r)];exact r) (λc xs r=>by rw[au (Hg c xs r)];exact r) λc o xs r=>by rw[au (λz=>by subst z;rw[r]at mu;exact mu)];exact r
   rcases hc with rfl|hc
   ·exact xM
   ·rintro rfl;rcases he with z|z
    ·exact Ey c b hc z
    ·rw[hc]at z;cases z;exact hb rfl
end
structure Un (fs ex:List Addr)(H H':Hp)(h h':Heap):Prop where
 keep:∀b o,h.get? b=some o->H b=none->b∉fs->b∉ex->h'.get? b=some o
 slot:∀b o,h.get? b=some o->H b=none->b∈fs->b∉ex->∃sl,h'.get? b=some { o with slots:=sl }
 free:∀b o,h.get? b=some o->H b=none->b∉ex->H' b=none
 there:∀b o,h.get? b=some o->b∉ex->∃o',h'.get? b=some o'
 tups:∀b xs,H b=some (.tup xs)->H' b=some (.tup xs)
 frzs:∀b o u,H b=some (.frz o u)->H' b=some (.frz o u)
 tbls:∀b q,H b=some (.tbl q)->H' b=some (.tbl q)
section
variable {fs KL ex Ms:List Addr}{H H1 H2:Hp}{h h1 h2 h':Heap}{a x e:Addr}{o:HO}
theorem Un.any (u:Un fs ex H H1 h h1)(q:h.get? b=some ob)(n:H b=none)(hx:b∉ex):∃sl,h1.get? b=some { ob with slots:=sl }:=by
 by_cases hb:b∈fs
 ·exact u.slot b ob q n hb hx
 ·exact⟨ob.slots,u.keep b ob q n hb hx⟩
theorem Un.trans (a:Un fs ex H H1 h h1)(b:Un fs ex H1 H2 h1 h2):Un fs ex H H2 h h2 where
 keep:=λc ob q n hc hx=>b.keep c ob (a.keep c ob q n hc hx) (a.free c ob q n hx) hc hx
 slot:=λc ob q n hc hx=>by
  obtain⟨sl,e1⟩:=a.slot c ob q n hc hx;obtain⟨Ez,e2⟩:=b.slot c _ e1 (a.free c ob q n hx) hc hx;exact⟨Ez,e2⟩
 free:=λc ob q n hx=>by
  obtain⟨o',e1⟩:=a.there c ob q hx;exact b.free c o' e1 (a.free c ob q n hx) hx
 there:=λc ob q hx=>by
  obtain⟨o',e1⟩:=a.there c ob q hx;exact b.there c o' e1 hx
 tups:=λc xs q=>b.tups c xs (a.tups c xs q)
 frzs:=λc ob xs q=>b.frzs c ob xs (a.frzs c ob xs q)
 tbls:=λc ps q=>b.tbls c ps (a.tbls c ps q)
theorem Un.kept (k:∀b u,h.get? b=some u->h'.get? b=some u):Un fs ex H H h h' :=
 ⟨λb ob q _ _ _=>k b ob q,λb ob q _ _ _=>⟨ob.slots,k b ob q⟩,λ_ _ _ n _=>n,λb ob q _=>⟨ob,k b ob q⟩,λ_ _ q=>q,λ_ _ _ q=>q,λ_ _ q=>q⟩
theorem Un.refl:Un fs ex H H h h:=Un.kept λ_ _ q=>q
theorem Un.laid (k:∀b u,h.get? b=some u->h'.get? b=some u)(hp:h.objs.size<=a)(hn:H a=none):Un fs ex H (upd H a o) h h' where
 keep:=λb u q _ _ _=>k b u q
 slot:=λb u q _ _ _=>⟨u.slots,k b u q⟩
 free:=λb u q n _=>by rw[au (vS (vQ (vX q) hp))];exact n
 there:=λb u q _=>⟨u,k b u q⟩
 tups:=λb xs q=>by rw[au (aP q hn)];exact q
 frzs:=λb u xs q=>by rw[au (aP q hn)];exact q
 tbls:=λb ps q=>by rw[au (aP q hn)];exact q
theorem Un.write (mu:F4 (H x))(he:e=x∨H e=some (.own x))(k:∀b u,b≠e->h.get? b=some u->h'.get? b=some u)(CG:∃u,h'.get? e=some u):Un fs ex H (upd H x o) h h':=by
 have hx:∀b,H b=none->b≠x:=λb n z=>by subst z;rw[n]at mu;exact mu
 have hb:∀b,H b=none->b≠e:=λb n z=>by
  subst z;rcases he with r|r
  ·exact hx b n r
  ·rw[n]at r;cases r
 have hm:∀b u,H b=some u->¬F4 (some u)->b≠x:=λb u q nm z=>by subst z;rw[q]at mu;exact nm mu
 refine⟨λb u q n _ _=>k b u (hb b n) q,λb u q n _ _=>⟨u.slots,k b u (hb b n) q⟩,λb u q n _=>by rw[au (hx b n)];exact n,λb u q _=>?_,
  λb xs q=>by rw[au (hm b _ q λz=>z)];exact q,λb u xs q=>by rw[au (hm b _ q λz=>z)];exact q,λb ps q=>by rw[au (hm b _ q λz=>z)];exact q⟩
 by_cases xM:b=e
 ·subst xM;exact CG
 ·exact⟨u,k b u xM q⟩
end
noncomputable def F5 (h:Heap)(H:Hp):List Addr:=(List.range h.objs.size).filter λa=>(H a).isSome
def oj (h:Heap)(H:Hp):Heap:=PySem.W.hideAll h (F5 h H)
theorem sW (h:Heap)(H:Hp):(oj h H).objs.size=h.objs.size:=PySem.W.hideAll_size _ _
theorem kg (e:h.get? b=some o)(n:H b=none):(oj h H).get? b=some o :=
 PySem.W.hideAll_get _ e λhm=>by
  have q:(H b).isSome=true:=(List.mem_filter.mp hm).2;rw[n]at q;simp at q
theorem xQ (e:(oj h H).get? b=some o):h.get? b=some o/\H b=none:=by
 have e':h.get? b=some o:=PySem.W.of_hideAll (F5 h H) e;refine⟨e',?_⟩;cases q:H b with
 |none=>rfl
 |some x=>
  have hm:b∈F5 h H:=List.mem_filter.mpr ⟨List.mem_range.mpr (vX e'),by simp[q]⟩;have z:(oj h H).get? b=none:=PySem.W.hideAll_none (F5 h H) hm;rw[z]at e;cases e
noncomputable def xR (g h:Heap)(L:Addr):List (Addr×Obj):=(List.range h.objs.size).filterMap λa=>if a=L∨(g.get? a).isSome=true then none else (h.get? a).map λo=>(a,o)
def aA (g h:Heap)(L d:Addr):List (Addr×Obj):=(xR g h L).filter λp=>decide (p.1≠d)
structure Mod (K:Frag)(mg:Str->Option Value)(base:Heap):Prop where
 kin:K.In base
 glob:base.Ns mainGlobals mg
 blt:∃mb,base.Ns builtinsNs mb/\∀x:Str,x ≠ "__name__"->mb x=bootBuiltins x
 nolimit:base.NoLimit
 bmain:∃bm ob,mg "__builtins__" = some (.ref bm)/\bm≠builtinsNs/\base.get? bm=some ob/\ob.cls=.type "module"/\ob.dict=some builtinsNs/\ob.data=.plain
structure Cx where
 prog:Program
 w:World
 K:Frag
 mg:Str->Option Value
 base:Heap
 A:Around
 N:List Str
 s₀:Shared
 H₀:Hp
 env:Env
 outer:List Env
 stack:List Env
 ex:List Addr
 fn:Str->Bool
 calm:Bool
 pn:List (Addr×Obj)
 xe:Value->Shared->Prop
noncomputable def lC (l:List Env):List Addr:=l.filterMap (·.frame)
abbrev Cx.fs (X:Cx):List Addr:=lC X.outer
def xS (sc:Scope)(x:Str):Prop:=sc.names.lookup x=some .local∨sc.names.lookup x=some .cell∨sc.names.lookup x=some .free
def zQ (sc:Scope)(x:Str):Prop:=sc.names.lookup x=some .local∨sc.names.lookup x=some .cell
def Gu (env:Env)(h:Heap)(m:Str->Option Value)(x:Str)(u:Value):Prop :=
 (env.kindOf x=some .local/\m x=some u)∨((env.kindOf x=some .cell∨env.kindOf x=some .free)/\∃c,env.cells.lookup x=some c/\h.IsCell c (some u))
abbrev wq {α:Type}(X:Cx):Sem α->(α->Shared->Prop)->(Value->Shared->Prop)->Shared->Prop:=wpAny (model X.prog X.w) X.A
structure Cx.Ok (X:Cx):Prop where
 mod:Mod X.K X.mg X.base
 kind:X.env.scope.kind=.function
 glob:X.env.globals=mainGlobals
 blt:X.env.builtins=builtinsNs
 above:X.s₀.heap.objs.size<=X.env.locals
 inj:∀x y c,X.env.cells.lookup x=some c->X.env.cells.lookup y=some c->x=y
 has:∀x,(X.env.kindOf x=some .cell∨X.env.kindOf x=some .free)->∃c,X.env.cells.lookup x=some c
 cab:∀x c,X.fn x=true->X.env.cells.lookup x=some c->X.s₀.heap.objs.size<=c
 hd:X.calm=true->X.A.handled=none
 frames:X.A.frames=some X.stack
 stk:X.stack=X.outer∨(X.stack=X.env::X.outer/\X.env.frame=some X.env.locals)
 exf:∀b∈X.ex,b≠X.env.locals/\∀x c,X.env.cells.lookup x=some c->c≠b
 bs:∀b o,X.base.get? b=some o->X.s₀.heap.get? b=some o/\X.H₀ b=none
 bsz:X.base.objs.size<=X.s₀.heap.objs.size
 noex:∀b o,X.base.get? b=some o->b∉X.ex
 exfs:∀b∈X.ex,b∉X.fs
 funs:X.s₀.heap.FunFrames X.base X.outer
 frf:∀b∈X.fs,X.H₀ b=none
structure Inv (X:Cx)(ac:List (Addr×Obj))(σ:List (Option V))(H:Hp)(s:Shared):Prop where
 ok:X.Ok
 os:s.os=X.s₀.os
 bare:AllBare s.gens
 base:Un X.fs X.ex X.H₀ H X.s₀.heap s.heap
 loc:∃m,s.heap.Ns X.env.locals m/\∀(i:Nat)(x:Str)(v:V),X.N[i]? = some x->σ[i]? = some (some v)->xS X.env.scope x->∃u,aI v u/\Gu X.env s.heap m x u
 cell:∀x c,X.env.cells.lookup x=some c->∃v,s.heap.IsCell c v
 free:H X.env.locals=none
 freeC:∀x c,X.env.cells.lookup x=some c->H c=none
 pin:∀p∈X.pn++ac,s.heap.get? p.1=some p.2/\H p.1=none/\p.1≠X.env.locals/\p.1∉X.fs/\∀v,p.2.data≠.cell v
 hok:j4 X.prog X.w H s.heap
 len:σ.length=X.N.length
section
variable {X:Cx}{ac:List (Addr×Obj)}{σ:List (Option V)}{H H':Hp}{s:Shared}{h':Heap}
theorem Cx.Ok.nofr (ok:X.Ok)(e:X.base.get? b=some o):b∉X.fs:=λhb=>by
 have:=(ok.funs.mem hb).1;rw[e]at this;cases this
theorem Inv.bs (I:Inv X ac σ H s):∀b o,X.base.get? b=some o->s.heap.get? b=some o/\H b=none:=λb o e=>
 ⟨I.base.keep b o (I.ok.bs b o e).1 (I.ok.bs b o e).2 (I.ok.nofr e) (I.ok.noex b o e),I.base.free b o (I.ok.bs b o e).1 (I.ok.bs b o e).2 (I.ok.noex b o e)⟩
theorem Inv.bk (I:Inv X ac σ H s):∀b o,X.base.get? b=some o->s.heap.get? b=some o:=λb o e=>(I.bs b o e).1
theorem Inv.mod (I:Inv X ac σ H s):Mod X.K X.mg X.base:=I.ok.mod
theorem Inv.kIn (I:Inv X ac σ H s):X.K.In s.heap:=I.ok.mod.kin.keeps I.bk
theorem Inv.fr (I:Inv X ac σ H s):∃m,Fr X.base X.env.locals s.heap m :=
 let ⟨m,hn,_⟩:=I.loc
 ⟨m,hn,I.bk,vR I.ok.bsz I.ok.above⟩
theorem Inv.lt (I:Inv X ac σ H s):X.env.locals<s.heap.objs.size:=let ⟨_,hn,_⟩:=I.loc;hn.lt
theorem Inv.sz (I:Inv X ac σ H s):X.s₀.heap.objs.size<=s.heap.objs.size:=vR I.ok.above (Nat.le_of_lt I.lt)
theorem Inv.nofs (I:Inv X ac σ H s)(h:s.heap.objs.size<=a):a∉X.fs:=λhb=>by
 obtain⟨_,o,ho,_⟩:=I.ok.funs.mem hb;exact absurd (vQ (vX ho) (vR I.sz h)) (Nat.lt_irrefl _)
theorem Inv.cne (I:Inv X ac σ H s):∀x c,X.env.cells.lookup x=some c->c≠X.env.locals:=λx c e z=>by
 obtain⟨v,o,ho,hd⟩:=I.cell x c e;obtain⟨m,⟨o',es,ep,og,FL,_⟩,_⟩:=I.loc;rw[z,og]at ho;cases ho;rw[FL]at hd;cases hd
theorem Inv.funs (I:Inv X ac σ H s):s.heap.FunFrames X.base X.outer:=by
 have all:∀(l:List Env),(∀b∈lC l,b∈X.fs)->X.s₀.heap.FunFrames X.base l->s.heap.FunFrames X.base l:=by
  intro l;induction l with
  |nil=>intro _ _;trivial
  |cons env r ih=>
   intro hs hl;obtain⟨hk,⟨L,o,hf,hn,ho,hd⟩,hr⟩:=hl;have hL:L∈X.fs:=hs L (by unfold lC;rw[List.filterMap_cons,hf];exact mX);obtain⟨sl,e⟩:=I.base.slot L o ho (I.ok.frf L hL) hL λz=>I.ok.exfs L z hL;exact⟨hk,⟨L,_,hf,hn,e,hd⟩,ih (λb hb=>hs b (by unfold lC;rw[List.filterMap_cons,hf];exact mZ _ hb)) hr⟩
 exact all X.outer (λ_ hb=>hb) I.ok.funs
theorem Inv.stack (I:Inv X ac σ H s):s.heap.FunFrames X.base X.stack:=by
 rcases I.ok.stk with e|⟨e,hf⟩
 ·rw[e];exact I.funs
 ·rw[e];obtain⟨m,hn,_⟩:=I.loc;refine .cons (by rw[I.ok.kind];decide) hf hn ?_ I.funs;exact Heap.get?_none_of_le (vR I.ok.bsz I.ok.above)
theorem Inv.stkSub (I:Inv X ac σ H s):∀b∈lC X.stack,b∈X.env.locals::X.fs:=λb hb=>by
 rcases I.ok.stk with e|⟨e,hf⟩
 ·rw[e]at hb;exact mZ _ hb
 ·rw[e]at hb;unfold lC at hb;rw[List.filterMap_cons,hf]at hb;exact hb
theorem Inv.stkFree (I:Inv X ac σ H s):∀b∈lC X.stack,H b=none:=λb hb=>by
 rcases vP (I.stkSub b hb)with e|hb
 ·rw[e];exact I.free
 ·obtain⟨_,o,ho,_⟩:=I.ok.funs.mem hb;exact I.base.free b o ho (I.ok.frf b hb) λz=>I.ok.exfs b z hb
theorem Inv.step {g':Array GenState}{t':Nat}{d':Drawn}{ch:List Addr}(I:Inv X ac σ H s)
  (uz:∀b∈ch,(b∈X.ex∨X.s₀.heap.objs.size<=b)/\b≠X.env.locals/\(∀x c,X.env.cells.lookup x=some c->c≠b)/\∀p∈X.pn++ac,p.1≠b)
  (keep:∀b o,b≠X.env.locals->b∉X.fs->b∉ch->s.heap.get? b=some o->H b=none->h'.get? b=some o)
  (slot:∀b o,b≠X.env.locals->b∈X.fs->b∉ch->s.heap.get? b=some o->H b=none->∃sl,h'.get? b=some { o with slots:=sl }) (free:∀b o,b∉ch->s.heap.get? b=some o->H b=none->H' b=none)
  (there:∀b o,b∉ch->s.heap.get? b=some o->∃o',h'.get? b=some o')
  (tups:∀b xs,H b=some (.tup xs)->H' b=some (.tup xs)) (frzs:∀b o u,H b=some (.frz o u)->H' b=some (.frz o u)) (tbls:∀b q,H b=some (.tbl q)->H' b=some (.tbl q))
  (ns:∀m,s.heap.Ns X.env.locals m->h'.Ns X.env.locals m) (hok:j4 X.prog X.w H' h') (hg:AllBare g'):
  Inv X ac σ H' { s with heap:=h',gens:=g',drawn:=d',toks:=t' }:=by
 have CH:∀b o,X.s₀.heap.get? b=some o->b≠X.env.locals:=λb o e=>vS (vQ (vX e) I.ok.above);have CJ:∀b o,X.s₀.heap.get? b=some o->b∉X.ex->b∉ch:=λb o e hx hb=>by
  rcases (uz b hb).1 with z|z
  ·exact hx z
  ·exact absurd (vQ (vX e) z) (Nat.lt_irrefl _)
 have A4:∀x c,X.env.cells.lookup x=some c->∀v,s.heap.IsCell c v->h'.IsCell c v:=λx c e v ⟨o,ho,hd⟩=>by
  have E4:c∉ch:=λz=>(uz c z).2.2.1 x c e rfl;by_cases hc:c∈X.fs
  ·obtain⟨sl,q⟩:=slot c o (I.cne x c e) hc E4 ho (I.freeC x c e);exact⟨_,q,hd⟩
  ·exact⟨o,keep c o (I.cne x c e) hc E4 ho (I.freeC x c e),hd⟩
 refine⟨I.ok,I.os,hg,⟨λb o e n hb hx=>?_,λb o e n hb hx=>?_,λb o e n hx=>?_,λb o e hx=>?_,λb xs e=>tups b xs (I.base.tups b xs e),λb o xs e=>frzs b o xs (I.base.frzs b o xs e),λb ps e=>?_⟩,?_,λx c e=>?_,?_,λx c e=>?_,λp hp=>?_,hok,I.len⟩
 ·exact keep b o (CH b o e) hb (CJ b o e hx) (I.base.keep b o e n hb hx) (I.base.free b o e n hx)
 ·obtain⟨sl,e1⟩:=I.base.slot b o e n hb hx;obtain⟨Ez,e2⟩:=slot b _ (CH b o e) hb (CJ b o e hx) e1 (I.base.free b o e n hx);exact⟨Ez,e2⟩
 ·obtain⟨o',e1⟩:=I.base.there b o e hx;exact free b o' (CJ b o e hx) e1 (I.base.free b o e n hx)
 ·obtain⟨o',e1⟩:=I.base.there b o e hx;exact there b o' (CJ b o e hx) e1
 ·exact tbls b _ (I.base.tbls b ps e)
 ·obtain⟨m,hn,hl⟩:=I.loc;refine⟨m,ns m hn,λi x v e1 e2 e3=>?_⟩;obtain⟨u,r,l⟩:=hl i x v e1 e2 e3;refine⟨u,r,?_⟩;rcases l with l|⟨k,c,e,z⟩
  ·exact .inl l
  ·exact .inr ⟨k,c,e,A4 x c e _ z⟩
 ·obtain⟨v,z⟩:=I.cell x c e;exact⟨v,A4 x c e v z⟩
 ·obtain⟨m,⟨o,_,_,ho,_⟩,_⟩:=I.loc;exact free _ o (λz=>(uz _ z).2.1 rfl) ho I.free
 ·obtain⟨v,o,ho,hd⟩:=I.cell x c e;exact free c o (λz=>(uz c z).2.2.1 x c e rfl) ho (I.freeC x c e)
 ·obtain⟨e,n,ne,nf,d⟩:=I.pin p hp;have E4:p.1∉ch:=λz=>(uz p.1 z).2.2.2 p hp rfl;exact⟨keep p.1 p.2 ne nf E4 e n,free p.1 p.2 E4 e n,ne,nf,d⟩
theorem Inv.un {t':Nat}(I:Inv X ac σ H s)(u:Un X.fs [] H H' s.heap h')(hok:j4 X.prog X.w H' h'):Inv X ac σ H' { s with heap:=h',toks:=t' }:=by
 obtain⟨m,⟨o,es,ep,ho,r⟩,_⟩:=id I.loc;obtain⟨sl,hL⟩:=u.any ho I.free (by simp);exact I.step (g':=s.gens) (d':=s.drawn) (ch:=[]) (λ_ z=>nomatch z) (λb o _ hb _ e n=>u.keep b o e n hb (by simp)) (λb o _ hb _ e n=>u.slot b o e n hb (by simp)) (λb o _ e n=>u.free b o e n (by simp)) (λb o _ e=>u.there b o e (by simp)) u.tups u.frzs u.tbls (λm' hm=>by
  obtain⟨o',oh,FM,og,r'⟩:=hm;rw[ho]at og;cases og;exact⟨_,oh,FM,hL,r'⟩) hok I.bare
theorem Inv.call {g':Array GenState}{t':Nat}{d':Drawn}{ch:List Addr}(I:Inv X ac σ H s)(u:Un (lC X.stack) ch H H' s.heap h')(hok:j4 X.prog X.w H' h')(hg:AllBare g')
  (uz:∀b∈ch,(b∈X.ex∨X.s₀.heap.objs.size<=b)/\b≠X.env.locals/\(∀x c,X.env.cells.lookup x=some c->c≠b)/\∀p∈X.pn++ac,p.1≠b):
  Inv X ac σ H' { s with heap:=h',gens:=g',drawn:=d',toks:=t' }:=by
 obtain⟨m,⟨o,es,ep,ho,r⟩,_⟩:=id I.loc;obtain⟨sl,hL⟩:=u.any ho I.free λz=>(uz _ z).2.1 rfl;exact I.step (ch:=ch) uz (λb o hL hb hc e n=>u.keep b o e n (λz=>(vP (I.stkSub b z)).elim hL hb) hc) (λb o _ _ hc e n=>u.any e n hc) (λb o hc e n=>u.free b o e n hc) (λb o hc e=>u.there b o e hc) u.tups u.frzs u.tbls (λm' hm=>by
  obtain⟨o',oh,FM,og,r'⟩:=hm;rw[ho]at og;cases og;exact⟨_,oh,FM,hL,r'⟩) hok hg
theorem Inv.turned {t':Nat}{it:Addr}(I:Inv X ac σ H s)(k:∀b o,b≠it->s.heap.get? b=some o->h'.get? b=some o)(hn:H it=none)(hL:it≠X.env.locals)
  (h1:it∈X.ex∨X.s₀.heap.objs.size<=it) (h2:∀x c,X.env.cells.lookup x=some c->c≠it) (h3:∀p∈X.pn++ac,p.1≠it):Inv X ac σ H { s with heap:=h',toks:=t' }:=by
 have A5:∀b u,H b=some u->b≠it:=λb u e z=>by rw[z,hn]at e;cases e
 refine I.step (g':=s.gens) (d':=s.drawn) (ch:=[it]) (λb hb=>?_) (λb o _ _ hc e _=>k b o (λz=>hc (by simp[z])) e) (λb o _ _ hc e _=>⟨o.slots,k b o (λz=>hc (by simp[z])) e⟩) (λ_ _ _ _ n=>n)
  (λb o hc e=>⟨o,k b o (λz=>hc (by simp[z])) e⟩) (λ_ _ e=>e) (λ_ _ _ e=>e) (λ_ _ e=>e) (λm hm=>?_) (λb u e=>?_) I.bare
 ·have e:b=it:=by simpa using hb
  subst e;exact⟨h1,hL,h2,h3⟩
 ·obtain⟨o,es,ep,ho,r⟩:=hm;exact⟨o,es,ep,k _ o (Ne.symm hL) ho,r⟩
 ·refine(I.hok b u e).stay (λc v hc q=>k c v ?_ q) (λ_ q=>q) (λ_ _ q=>q) λ_ _ _ q=>q;rcases hc with z|z
  ·rw[z];exact A5 b u e
  ·exact A5 c _ z
theorem Inv.tok (I:Inv X ac σ H s)(t:Nat):Inv X ac σ H { s with toks:=t }:=I.un (h':=s.heap) (t':=t) Un.refl I.hok
theorem Inv.kept (I:Inv X ac σ H s)(k:∀b u,s.heap.get? b=some u->h'.get? b=some u):Inv X ac σ H { s with heap:=h',toks:=t' }:=I.un (Un.kept k) (I.hok.kept k)
theorem Inv.laid (I:Inv X ac σ H s)(k:∀b u,s.heap.get? b=some u->h'.get? b=some u)(hp:s.heap.objs.size<=a)(new:bD X.prog X.w (upd H a o) h' a o):
  Inv X ac σ (upd H a o) { s with heap:=h',toks:=t' }:=I.un (Un.laid k hp (I.hok.fresh hp)) (I.hok.laid k hp new)
theorem Inv.write (I:Inv X ac σ H s)(mu:F4 (H x))(he:e=x∨H e=some (.own x))(k:∀b u,b≠e->s.heap.get? b=some u->h'.get? b=some u)(CG:∃u,h'.get? e=some u)
  (new:bD X.prog X.w (upd H x o) h' x o):Inv X ac σ (upd H x o) { s with heap:=h',toks:=t' }:=I.un (Un.write mu he k CG) (I.hok.write mu he k CG new)
theorem Inv.pins_of (I:Inv X ac σ H s)(h:∀p∈pins',s.heap.get? p.1=some p.2/\H p.1=none/\p.1≠X.env.locals/\p.1∉X.fs/\∀v,p.2.data≠.cell v):Inv X pins' σ H s :=
 ⟨I.ok,I.os,I.bare,I.base,I.loc,I.cell,I.free,I.freeC,λp hp=>(List.mem_append.mp hp).elim (λz=>I.pin p (List.mem_append_left _ z)) (h p),I.hok,I.len⟩
theorem iE {N:List Str}(hN:N.Nodup){i j:Nat}{x:Str}(a:N[i]? = some x)(b:N[j]? = some x):i=j:=by
 obtain⟨h1,e1⟩:=vV a;obtain⟨h2,e2⟩:=vV b;exact(List.getElem_inj hN).mp (e1.trans e2.symm)
theorem lU {M:Model}{A:Around}{E:Value->Shared->Prop}{i:Nat}{x:Str}{v:V}{u:Value}{Q:Unit->Shared->Prop}(I:Inv X ac σ H s)(hN:X.N.Nodup)(hi:X.N[i]? = some x)(hx:zQ X.env.scope x)(r:aI v u)
  (h:∀s',Inv X ac (σ.set i (some v)) H s'->(∃a,Heap.SameBut a s.heap s'.heap/\(a=X.env.locals∨X.env.cells.lookup x=some a))->Q () s') (hf:X.fn x=true∨X.env.scope.names.lookup x=some .local:=by first|exact .inl rfl|exact .inr rfl|assumption):wpAny M A (storeName X.env x u) Q E s:=by
 obtain⟨m,hn,hl⟩:=id I.loc;have Hh:(X.env.scope.kind == .class || (X.env.scope.kind == .module && X.env.locals != X.env.globals))=false:=by rw[I.ok.kind];rfl
 have ur:i<σ.length:=by rw[I.len];exact(vV hi).1
 have cne:=I.cne;have sP:∀ {a:Addr}{h':Heap},(∃o,s.heap.get? a=some o/\H a=none)->Heap.SameBut a s.heap h'->j4 X.prog X.w H h':=λ{a h'} ha hs b ob e=>by
  obtain⟨_,_,A6⟩:=ha;refine(I.hok b ob e).stay (λc w' hc q=>(hs.2 c ?_).trans q) (λ_ q=>q) (λ_ _ q=>q) λ_ _ _ q=>q;rintro rfl;rcases hc with rfl|hc
  ·rw[A6]at e;cases e
  ·rw[A6]at hc;cases hc
 rcases hx with hk|hk
 ·refine wpAny_storeName_local hk hn (λh' CK hs=>?_) Hh;obtain⟨oL,_,_,E5,_⟩:=id hn;refine h _ ⟨I.ok,I.os,I.bare,⟨λb o e n hb hx=>?_,λb o e n hb hx=>?_,I.base.free,λb o e hx=>?_,I.base.tups,I.base.frzs,I.base.tbls⟩,⟨_,CK,λj y v' e1 e2 e3=>?_⟩,λy c e=>?_,I.free,I.freeC,λp hp=>?_,sP ⟨oL,E5,I.free⟩ hs,by simpa using I.len⟩ ⟨_,hs,.inl rfl⟩
  ·exact(hs.2 b (vS (vQ (vX e) I.ok.above))).trans (I.base.keep b o e n hb hx)
  ·obtain⟨sl,e1⟩:=I.base.slot b o e n hb hx;exact⟨sl,(hs.2 b (vS (vQ (vX e) I.ok.above))).trans e1⟩
  ·obtain⟨o',e1⟩:=I.base.there b o e hx;exact⟨o',(hs.2 b (vS (vQ (vX e) I.ok.above))).trans e1⟩
  ·by_cases hj:j=i
   ·subst hj;rw[hi]at e1;cases e1;rw[List.getElem?_set_self ur]at e2;cases e2
    exact⟨u,r,.inl ⟨hk,by simp⟩⟩
   ·rw[vB (Ne.symm hj)]at e2;obtain⟨u',r',q⟩:=hl j y v' e1 e2 e3;refine⟨u',r',?_⟩;rcases q with⟨k,e⟩|⟨k,c,e,z⟩
    ·refine .inl ⟨k,?_⟩;have:y≠x:=λe=>hj (iE hN e1 (e ▸ hi));simp[this,e]
    ·exact .inr ⟨k,c,e,z.sameBut hs (cne y c e)⟩
  ·obtain⟨w',z⟩:=I.cell y c e;exact⟨w',z.sameBut hs (cne y c e)⟩
  ·obtain⟨e,n,ne,nf,d⟩:=I.pin p hp;exact⟨(hs.2 p.1 ne).trans e,n,ne,nf,d⟩
 ·have zy:X.fn x=true:=by
   rcases hf with z|z
   ·exact z
   ·rw[z]at hk;cases hk
  obtain⟨c,hc⟩:=I.ok.has x (.inl hk);obtain⟨w',z⟩:=I.cell x c hc;refine wpAny_storeName_cell I.ok.kind hk hc z (λh' FN hs=>?_);obtain⟨oc,IT,Hi⟩:=id z;refine h { s with heap:=h' } ⟨I.ok,I.os,I.bare,⟨λb o e n hb hx=>?_,λb o e n hb hx=>?_,I.base.free,λb o e hx=>?_,I.base.tups,I.base.frzs,I.base.tbls⟩,⟨m,hn.sameBut hs (Ne.symm (cne x c hc)),λj y v' e1 e2 e3=>?_⟩,λy c' e=>?_,I.free,I.freeC,λp hp=>?_,sP ⟨oc,IT,I.freeC x c hc⟩ hs,by simpa using I.len⟩ ⟨c,hs,.inr hc⟩
  ·exact(hs.2 b (vS (vQ (vX e) (I.ok.cab x c zy hc)))).trans (I.base.keep b o e n hb hx)
  ·obtain⟨sl,e1⟩:=I.base.slot b o e n hb hx;exact⟨sl,(hs.2 b (vS (vQ (vX e) (I.ok.cab x c zy hc)))).trans e1⟩
  ·obtain⟨o',e1⟩:=I.base.there b o e hx;exact⟨o',(hs.2 b (vS (vQ (vX e) (I.ok.cab x c zy hc)))).trans e1⟩
  ·by_cases hj:j=i
   ·subst hj;rw[hi]at e1;cases e1;rw[List.getElem?_set_self ur]at e2;cases e2
    exact⟨u,r,.inr ⟨.inl hk,c,hc,FN⟩⟩
   ·rw[vB (Ne.symm hj)]at e2;obtain⟨u',r',q⟩:=hl j y v' e1 e2 e3;refine⟨u',r',?_⟩;rcases q with q|⟨k,c',e,z'⟩
    ·exact .inl q
    ·refine .inr ⟨k,c',e,z'.sameBut hs ?_⟩;rintro rfl;exact hj (iE hN e1 (I.ok.inj _ _ _ e hc ▸ hi))
  ·by_cases hcc:c'=c
   ·subst hcc;exact⟨_,FN⟩
   ·obtain⟨w2,z2⟩:=I.cell y c' e;exact⟨w2,z2.sameBut hs hcc⟩
  ·obtain⟨e,n,ne,nf,d⟩:=I.pin p hp;refine⟨(hs.2 p.1 ?_).trans e,n,ne,nf,d⟩;intro q;rw[q,IT]at e;have q':oc=p.2:=vJ e;exact d w' (by rw[←q'];exact Hi)
theorem kh {M:Model}{A:Around}{E:Value->Shared->Prop}{i:Nat}{x:Str}{v:V}{u:Value}{Q:Unit->Shared->Prop}(I:Inv X ac σ H s)(hN:X.N.Nodup)(hi:X.N[i]? = some x)(hx:zQ X.env.scope x)(r:aI v u)
  (h:∀s',Inv X ac (σ.set i (some v)) H s'->Q () s') (hf:X.fn x=true∨X.env.scope.names.lookup x=some .local:=by first|exact .inl rfl|exact .inr rfl|assumption):wpAny M A (storeName X.env x u) Q E s :=
 lU I hN hi hx r (λs' I' _=>h s' I') hf
theorem Inv.call' (I:Inv X ac σ H s)(ho:s'.os=s.os)(u:Un (lC X.stack) ch H H' s.heap s'.heap)(hok:j4 X.prog X.w H' s'.heap)(hg:AllBare s'.gens)
  (uz:∀b∈ch,(b∈X.ex∨X.s₀.heap.objs.size<=b)/\b≠X.env.locals/\(∀x c,X.env.cells.lookup x=some c->c≠b)/\∀p∈X.pn++ac,p.1≠b):Inv X ac σ H' s':=by
 obtain⟨h',g',d',t',o'⟩:=s';have e:o'=s.os:=ho;subst e;exact I.call (g':=g') (t':=t') (d':=d') u hok hg uz
end
abbrev XK:=Value->Option Addr->Hp->Prop
abbrev St:=List (Option V)
abbrev VK:=V->Hp->Prop
abbrev TE:=St->Hp->VK->Prop
abbrev TT:=St->Hp->(Bool->Hp->Prop)->Prop
abbrev TA:=St->Hp->(List V->Hp->Prop)->Prop
structure Ends where
 nx:St->Hp->Prop
 rt:VK
 bk:St->Hp->Prop:=λ_ _=>False
 ct:St->Hp->Prop:=λ_ _=>False
abbrev TS:=Ends->St->Hp->Prop
def EP (X:Cx)(ac:List (Addr×Obj))(σ:St)(Q:VK)(u:Value)(s':Shared):Prop:=∃v H',Inv X ac σ H' s'/\aI v u/\Q v H'
def TP (X:Cx)(ac:List (Addr×Obj))(σ:St)(Q:Bool->Hp->Prop)(b:Bool)(s':Shared):Prop:=∃H',Inv X ac σ H' s'/\Q b H'
def AP (X:Cx)(ac:List (Addr×Obj))(σ:St)(Q:List V->Hp->Prop)(us:List Value)(s':Shared):Prop:=∃vs H',Inv X ac σ H' s'/\aT vs us/\Q vs H'
def SP (X:Cx)(ac:List (Addr×Obj))(D:Ends)(f:Flow)(s':Shared):Prop :=
 match f with
 |.next=>∃σ' H',Inv X ac σ' H' s'/\D.nx σ' H'
 |.brk=>∃σ' H',Inv X ac σ' H' s'/\D.bk σ' H'
 |.cont=>∃σ' H',Inv X ac σ' H' s'/\D.ct σ' H'
 |.ret u=>∃v σ' H',Inv X ac σ' H' s'/\aI v u/\D.rt v H'
def PE (X:Cx)(e:Expr)(t:TE):Prop :=
 ∀(ac:List (Addr×Obj))(s:Shared)(σ:St)(H:Hp)(Q:VK),Inv X ac σ H s->t σ H Q->wq X (eval e X.env) (EP X ac σ Q) X.xe s
def PT (X:Cx)(e:Expr)(t:TT):Prop :=
 ∀(ac:List (Addr×Obj))(s:Shared)(σ:St)(H:Hp)(Q:Bool->Hp->Prop),Inv X ac σ H s->t σ H Q->wq X (isTrue e X.env (eval e X.env)) (TP X ac σ Q) X.xe s
def PW (X:Cx)(e:Expr)(t:TT):Prop :=
 ∀(ie:Sem Value)(ac:List (Addr×Obj))(s:Shared)(σ:St)(H:Hp)(Q:Bool->Hp->Prop),Inv X ac σ H s->t σ H Q->wq X (isTrue e X.env ie) (TP X ac σ Q) X.xe s
theorem PW.pt (h:PW X e t):PT X e t:=h _
def PA (X:Cx)(es:List Expr)(t:TA):Prop :=
 ∀(pos:Pos)(ac:List (Addr×Obj))(s:Shared)(σ:St)(H:Hp)(Q:List V->Hp->Prop),Inv X ac σ H s->t σ H Q->wq X (spliced (backTo pos (starEach es X.env))) (AP X ac σ Q) X.xe s
def PS (X:Cx)(st:Stmt)(t:TS):Prop :=
 ∀(ac:List (Addr×Obj))(s:Shared)(σ:St)(H:Hp)(D:Ends),Inv X ac σ H s->t D σ H->wq X (exec st X.env) (SP X ac D) X.xe s
def ki (X:Cx)(st:List Stmt)(t:TS):Prop :=
 ∀(ac:List (Addr×Obj))(s:Shared)(σ:St)(H:Hp)(D:Ends),Inv X ac σ H s->t D σ H->wq X (execs st X.env) (SP X ac D) X.xe s
theorem bY {α:Type}{t:Sem α}{Q Q':α->Shared->Prop}{M:Model}{A:Around}{E:Value->Shared->Prop}{s:Shared}(h:wpAny M A t Q E s)(hQ:∀a s,Q a s->Q' a s):wpAny M A t Q' E s:=wpAny_mono h hQ λ_ _ x=>x
section
variable {X:Cx}
theorem Ke {a b:Expr}{ta tb:TE}(ha:PE X a ta)(hb:PE X b tb){ac:List (Addr×Obj)}{s:Shared}{σ:St}{H:Hp}{R:V->V->Hp->Prop}(I:Inv X ac σ H s)(h:ta σ H λx H1=>tb σ H1 λy H2=>R x y H2)
  {α:Type}{Q:α->Shared->Prop}{f:Value->Value->Sem α}
  (hf:∀v u s2 x y H2,Inv X ac σ H2 s2->aI x v->aI y u->R x y H2->wq X (f v u) Q X.xe s2):
  wq X (eval a X.env) (λv s₁=>wq X (eval b X.env) (λu s₂=>wq X (f v u) Q X.xe s₂) X.xe s₁) X.xe s:=by
 refine bY (ha ac s σ H _ I h) λv s1 ⟨x,H1,I1,r1,q1⟩=>?_;refine bY (hb ac s1 σ H1 _ I1 q1) λu s2 ⟨y,H2,I2,r2,q2⟩=>?_;exact hf v u s2 x y H2 I2 r1 r2 q2
def om (i:Nat):TE:=λσ H Q=>∃v,σ[i]? = some (some v)/\Q v H
def tC (v:V):TE:=λ_ H Q=>Q v H
theorem ci (hN:X.N[i]? = some x)(hv:xS X.env.scope x)(hd:(x == ("__debug__" : Str))=false:=by decide)(gt:(x == ("__classdict__" : Str))=false:=by decide):PE X (.Name x pos) (om i):=by
 intro ac s σ H Q I h;obtain⟨v,e,h⟩:=h;obtain⟨m,hn,hl⟩:=I.loc;obtain⟨u,r,l⟩:=hl i x v hN e hv;have g6:EP X ac σ Q u s:=⟨v,H,I,r,h⟩;rcases l with⟨hk,hm⟩|⟨hk,c,hc,A7⟩
 ·exact wpAny_Name (wpAny_loadName_local I.ok.kind hk hn hm g6) hd
 ·rcases hk with hk|hk
  ·exact wpAny_Name (wpAny_loadName_cell I.ok.kind hk hc A7 g6) hd
  ·exact wpAny_Name (wpAny_loadName_free I.ok.kind hk hc A7 g6 gt) hd
theorem AL {i j pos}:PE X (.Constant (.int i) j pos) (tC (.int i)):=λ_ _ _ H _ I h=>wpAny_Constant_int ⟨.int i,H,I.tok _,⟨_,rfl⟩,h⟩
theorem u8 {b j pos}:PE X (.Constant (.bool b) j pos) (tC (.bl b)):=λ_ _ _ H _ I h=>Constant_bool ⟨.bl b,H,I,rfl,h⟩
theorem u9 {j pos}:PE X (.Constant .none j pos) (tC .non):=λ_ _ _ H _ I h=>Constant_none ⟨.non,H,I,rfl,h⟩
theorem AM {x j pos}:PE X (.Constant (.str x) j pos) (tC (.str x)):=λ_ _ _ H _ I h=>Calls.Constant_str ⟨.str x,H,I.tok _,⟨_,rfl⟩,h⟩
def Gl (X:Cx)(x:Str):Prop:=X.env.kindOf x=some .globalImplicit
theorem iF {E:Value->Shared->Prop}{ac:List (Addr×Obj)}{s:Shared}{σ:St}{H:Hp}{x:Str}{u:Value}{pos:Pos}{Q:Value->Shared->Prop}(I:Inv X ac σ H s)(hg:Gl X x)(hm:X.mg x=some u)(h:Q u s)
  (hd:(x == ("__debug__" : Str))=false:=by decide):wq X (eval (.Name x pos) X.env) Q E s :=
 Calls.Name_function_global I.ok.kind hg (Calls.loadGlobal_global (by rw[I.ok.glob];exact I.mod.glob.keeps I.bk) hm h) hd
theorem g9 {E:Value->Shared->Prop}{ac:List (Addr×Obj)}{s:Shared}{σ:St}{H:Hp}{x:Str}{u:Value}{pos:Pos}{Q:Value->Shared->Prop}(I:Inv X ac σ H s)(hg:Gl X x)(hm:X.mg x=none)(hv:bootBuiltins x=some u)(h:Q u s)
  (hn:x ≠ "__name__":=by decide) (hd:(x == ("__debug__" : Str))=false:=by decide):wq X (eval (.Name x pos) X.env) Q E s:=by
 obtain⟨mb,h1,h2⟩:=I.mod.blt;exact Calls.Name_function_global I.ok.kind hg (Calls.loadGlobal_builtin (by rw[I.ok.glob];exact I.mod.glob.keeps I.bk) hm (by rw[I.ok.blt];exact h1.keeps I.bk) ((h2 x hn).trans hv) h) hd
theorem dX (hg:Gl X x)(hm:X.mg x=some u)(r:aI v u)(hd:(x == ("__debug__" : Str))=false:=by decide):PE X (.Name x pos) (tC v) :=
 λ_ _ _ H _ I h=>iF I hg hm ⟨v,H,I,r,h⟩ hd
theorem jW (hg:Gl X x)(hm:X.mg x=none)(hv:bootBuiltins x=some u)(r:aI v u)(hn:x ≠ "__name__":=by decide)(hd:(x == ("__debug__" : Str))=false:=by decide):PE X (.Name x pos) (tC v) :=
 λ_ _ _ H _ I h=>g9 I hg hm hv ⟨v,H,I,r,h⟩ hn hd
def Kf (ta tb:TE)(k:Int->Int->Hp->Prop):St->Hp->Prop:=λσ H=>ta σ H λx H1=>tb σ H1 λy H2=>∃i j,x=.int i/\y=.int j/\k i j H2
variable {a b:Expr}{ta tb:TE}{pos:Pos}
def PC (X:Cx)(op:CmpOp)(a b:Expr)(t:TE):Prop :=
 ∀(ac:List (Addr×Obj))(s:Shared)(σ:St)(H:Hp)(Q:VK),Inv X ac σ H s->t σ H Q ->
  wq X (eval a X.env) (λv s₁=>wq X (eval b X.env) (λu s₂=>wq X (compareOp op v u) (EP X ac σ Q) X.xe s₂) X.xe s₁) X.xe s
theorem iG (b:Expr){op:CmpOp}(h:op≠.In)(h2:op≠.NotIn):behindInMarks op b=false:=by
 have e1:(op == CmpOp.In)=false:=by cases op<;>first|rfl|exact absurd rfl h
 have e2:(op == CmpOp.NotIn)=false:=by cases op<;>first|rfl|exact absurd rfl h2
 cases b<;>simp[behindInMarks,e1,e2]
def Db (p:Int->Int->Bool)(ta tb:TE):TE:=λσ H Q=>Kf ta tb (λi j H2=>Q (.bl (p i j)) H2) σ H
abbrev Gv:TE->TE->TE:=Db λi j=>decide (i=j)
theorem AN {op:CmpOp}{p:Int->Int->Bool}(ha:PE X a ta)(hb:PE X b tb)
  (rule:∀(i j:Int)(t u:Tok)(Q:Value->Shared->Prop)(s:Shared),Q (.bool (p i j)) s->wq X (compareOp op (.int i t) (.int j u)) Q X.xe s):PC X op a b (Db p ta tb):=by
 intro ac s σ H Q I h;refine Ke ha hb I h λv u s2 x y H2 I2 rx ry q=>?_;obtain⟨i,j,rfl,rfl,q⟩:=q;obtain⟨t,rfl⟩:=rx;obtain⟨t',rfl⟩:=ry;exact rule i j t t' _ s2 ⟨.bl _,H2,I2,rfl,q⟩
theorem AO (ha:PE X a ta)(hb:PE X b tb):PC X .Eq a b (Gv ta tb):=AN ha hb λ_ _ _ _ _ _ h=>eq_int (by rw[Bool.beq_eq_decide_eq];exact h)
def Gw (ta:TE):TE:=λσ H Q=>ta σ H λx H1=>Q (.bl (decide (x=.non))) H1
def zR (ta:TE):TE:=λσ H Q=>ta σ H λx H1=>Q (.bl (!decide (x=.non))) H1
theorem aI.none_iff (r:aI x v):(v == Value.none)=decide (x=.non):=by
 cases x with
 |non=>cases r;rfl
 |bl _=>cases r;rfl
 |int _=>obtain⟨t,rfl⟩:=r;rfl
 |str _=>obtain⟨t,rfl⟩:=r;rfl
 |byt _=>obtain⟨t,rfl⟩:=r;rfl
 |flt _=>obtain⟨t,rfl⟩:=r;rfl
 |ref _=>cases r;rfl
 |ty _=>cases r;rfl
theorem uA {j lR}(ha:PE X a ta):PC X .Is a (.Constant .none j lR) (Gw ta):=by
 intro ac s σ H Q I h;refine bY (ha ac s σ H _ I h) λv s1 ⟨x,H1,I1,r1,q1⟩=>?_;exact Constant_none (is_none_gen ⟨.bl _,H1,I1,by rw[r1.none_iff];rfl,q1⟩)
theorem xT {j lR}(ha:PE X a ta):PC X .IsNot a (.Constant .none j lR) (zR ta):=by
 intro ac s σ H Q I h;refine bY (ha ac s σ H _ I h) λv s1 ⟨x,H1,I1,r1,q1⟩=>?_;exact Constant_none (isnot_none_gen ⟨.bl _,H1,I1,by rw[r1.none_iff];rfl,q1⟩)
def tB (t:TE):TT:=λσ H Q=>t σ H λx H1=>∃c,x=.bl c/\Q c H1
theorem qg (h:PC X op a b t)(h1:behindInMarks op b=false:=by first|exact iG _ (by decide) (by decide)|rfl):PE X (.Compare a [op] [b] pos) t:=λac s σ H Q I hw=>wpAny_Compare1 (h ac s σ H Q I hw) h1
theorem AQ {op:CmpOp}{t:TE}(h:PC X op a b t)(h1:behindInMarks op b=false:=by first|exact iG _ (by decide) (by decide)|rfl):PT X (.Compare a [op] [b] pos) (tB t):=by
 intro ac s σ H Q I hw;refine wpAny_isTrue_Compare1 (bY (h ac s σ H _ I hw) λv s1 h1=>bY h1 λu s2 h2=>bY h2 λc s3 ⟨x,H1,I1,r1,q1⟩=>?_) h1;obtain⟨d,rfl,q⟩:=q1;cases r1
 exact wpAny_truthy_bool ⟨H1,I1,q⟩
theorem qh {e:Expr}{t:TE}(h:PE X e t)(he:∀ie,isTrue e X.env ie=(do let v ←ie;standAt e.pos;holding [v] (truthy v)):=by intro _;rfl):PT X e (tB t):=by
 intro ac s σ H Q I hw;refine isTrue_plain (bY (h ac s σ H _ I hw) λv s1 ⟨x,H1,I1,r1,q1⟩=>?_) (he _);obtain⟨d,rfl,q⟩:=q1;cases r1
 exact wpAny_truthy_bool ⟨H1,I1,q⟩
variable {tA FP:TT}{aA:List Expr}
def Dc (t u:TT):TT:=λσ H Q=>t σ H λc H1=>if c=true then u σ H1 Q else Q false H1
def Iu (t u:TT):TT:=λσ H Q=>t σ H λc H1=>if c=true then Q true H1 else u σ H1 Q
def De (t:TT):TT:=λσ H Q=>t σ H λc H1=>Q (!c) H1
theorem xU (ha:PT X a tA):PW X (.BoolOp .And [a] pos) tA:=by
 intro wh ac s σ H Q I h;refine isTrue_and (bY (ha ac s σ H Q I h) λc s1 e=>?_);cases c with
 |true=>exact isTrue_and_nil e
 |false=>exact e
theorem qi (ha:PT X a tA):PW X (.BoolOp .Or [a] pos) tA:=by
 intro wh ac s σ H Q I h;refine isTrue_or (bY (ha ac s σ H Q I h) λc s1 e=>?_);cases c with
 |false=>exact isTrue_or_nil e
 |true=>exact e
theorem AR (ha:PT X a tA)(hb:PW X (.BoolOp .And (b::aA) pos) FP):PW X (.BoolOp .And (a::b::aA) pos) (Dc tA FP):=by
 intro wh ac s σ H Q I h;refine isTrue_and (bY (ha ac s σ H _ I h) λc s1 ⟨H1,I1,q1⟩=>?_);cases c with
 |true=>exact hb wh ac s1 σ H1 Q I1 q1
 |false=>exact⟨H1,I1,q1⟩
theorem oo (ha:PT X a tA)(hb:PW X (.BoolOp .Or (b::aA) pos) FP):PW X (.BoolOp .Or (a::b::aA) pos) (Iu tA FP):=by
 intro wh ac s σ H Q I h;refine isTrue_or (bY (ha ac s σ H _ I h) λc s1 ⟨H1,I1,q1⟩=>?_);cases c with
 |true=>exact⟨H1,I1,q1⟩
 |false=>exact hb wh ac s1 σ H1 Q I1 q1
theorem mN (ha:PT X a tA):PT X (.UnaryOp .Not a pos) (De tA):=by
 intro ac s σ H Q I h;exact isTrue_not (ha ac s σ H (λc H1=>Q (!c) H1) I h)
def zS (ta tb:TE):TE:=λσ H Q=>ta σ H λx H1=>∃c,x=.bl c/\if c=true then tb σ H1 Q else Q (.bl false) H1
def Gx (ta tb:TE):TE:=λσ H Q=>ta σ H λx H1=>∃c,x=.bl c/\if c=true then Q (.bl true) H1 else tb σ H1 Q
def Df (ta:TE):TE:=λσ H Q=>ta σ H λx H1=>∃c,x=.bl c/\Q (.bl (!c)) H1
theorem qj {op}(h:PE X a t):PE X (.BoolOp op [a] pos) t:=λac s σ H Q I hw=>BoolOp_one (h ac s σ H Q I hw)
theorem mO (ha:PE X a ta)(hb:PE X (.BoolOp .And (b::aA) pos) tb):PE X (.BoolOp .And (a::b::aA) pos) (zS ta tb):=by
 intro ac s σ H Q I h;refine BoolOp_and (bY (ha ac s σ H _ I h) λv s1 ⟨x,H1,I1,r1,q1⟩=>?_);obtain⟨c,rfl,q1⟩:=q1;cases r1
 refine wpAny_truthy_bool ?_;cases c with
 |true=>exact hb ac s1 σ H1 Q I1 q1
 |false=>exact⟨.bl false,H1,I1,rfl,q1⟩
theorem Dg (ha:PE X a ta)(hb:PE X (.BoolOp .Or (b::aA) pos) tb):PE X (.BoolOp .Or (a::b::aA) pos) (Gx ta tb):=by
 intro ac s σ H Q I h;refine BoolOp_or (bY (ha ac s σ H _ I h) λv s1 ⟨x,H1,I1,r1,q1⟩=>?_);obtain⟨c,rfl,q1⟩:=q1;cases r1
 refine wpAny_truthy_bool ?_;cases c with
 |false=>exact hb ac s1 σ H1 Q I1 q1
 |true=>exact⟨.bl true,H1,I1,rfl,q1⟩
theorem uB (ha:PE X a ta):PE X (.UnaryOp .Not a pos) (Df ta):=by
 intro ac s σ H Q I h;refine UnaryOp_ (bY (ha ac s σ H _ I h) λv s1 ⟨x,H1,I1,r1,q1⟩=>?_);obtain⟨c,rfl,q1⟩:=q1;cases r1
 exact not_of (wpAny_truthy_bool ⟨.bl (!c),H1,I1,rfl,q1⟩)
end
def gb (K:Frag)(H:Hp)(a:Addr)(xs:List V):Prop :=
 Rd H a (.lst xs) ∨
  ∃(o:Obj)(its:Array Value)(n:Nat),K.lookup a=some o/\o.cls=.type "list"/\o.dict=none/\o.data=.seq its n/\its.size<=sizeLine/\aT xs its.toList
def gc (K:Frag)(H:Hp)(a:Addr)(xs:List V):Prop :=
 Rd H a (.tup xs) ∨
  ∃(o:Obj)(its:Array Value)(n:Nat),K.lookup a=some o/\o.cls=.type "tuple"/\o.data=.seq its n/\its.size<=sizeLine/\aT xs its.toList
noncomputable def Gy:Value->Option V
 |.none=>some .non
 |.bool b=>some (.bl b)
 |.int i _=>some (.int i)
 |.str x _=>some (.str x)
 |.bytes b _=>some (.byt b)
 |.float b _=>some (.flt b)
 |.ref a=>some (.ref a)
 |.type n=>some (.ty n)
 |_=>none
theorem aI.abs (r:aI x u):Gy u=some x:=by
 cases x with
 |non=>cases r;rfl
 |bl _=>cases r;rfl
 |int _=>obtain⟨t,rfl⟩:=r;rfl
 |str _=>obtain⟨t,rfl⟩:=r;rfl
 |byt _=>obtain⟨t,rfl⟩:=r;rfl
 |flt _=>obtain⟨t,rfl⟩:=r;rfl
 |ref _=>cases r;rfl
 |ty _=>cases r;rfl
theorem aI.inj (r:aI x u)(q:aI y u):x=y:=vJ (r.abs.symm.trans q.abs)
theorem aT.inj:∀ {xs ys:List V}{us:List Value},aT xs us->aT ys us->xs=ys
 |_,_,_,.nil,.nil=>rfl
 |_,_,_,.cons r t,.cons r' t'=>by rw[r.inj r',aT.inj t t']
section
variable {X:Cx}{ac:List (Addr×Obj)}{σ:St}{H:Hp}{s:Shared}{a:Addr}{xs ys:List V}
theorem gb.of {K:Frag}(h:H a=some (.lst xs)):gb K H a xs:=.inl (.inl h)
theorem gc.of {K:Frag}(h:H a=some (.tup xs)):gc K H a xs:=.inl (.inl h)
theorem Inv.list (I:Inv X ac σ H s)(h:gb X.K H a xs):∃its:List Value,aT xs its/\PlainL s.heap a its.toArray/\xs.length<=sizeLine:=by
 rcases h with h|⟨o,its,n,hk,hc,hd,hs,hz,r⟩
 ·obtain⟨z,its,n,r,e⟩:=h.ok I.hok;exact⟨its,r,⟨_,n,e,rfl,rfl,rfl⟩,z⟩
 ·refine⟨its.toList,r,⟨o,n,I.kIn a o hk,hc,hd,by simpa using hs⟩,?_⟩;have e:=r.length;simp only[vF]at e;omega
theorem Inv.tuple (I:Inv X ac σ H s)(h:gc X.K H a xs):∃its:List Value,aT xs its/\IsTup s.heap a its.toArray/\xs.length<=sizeLine:=by
 rcases h with h|⟨o,its,n,hk,hc,hs,hz,r⟩
 ·obtain⟨z,its,r,p⟩:=h.ok I.hok;exact⟨its,r,p,z⟩
 ·refine⟨its.toList,r,⟨o,I.kIn a o hk,hc,n,by simpa using hs⟩,?_⟩;have e:=r.length;simp only[vF]at e;omega
theorem Inv.list_inj (I:Inv X ac σ H s)(h:gb X.K H a xs)(h':gb X.K H a ys):xs=ys:=by
 obtain⟨its,r,⟨o,n,e,_,_,d⟩,_⟩:=I.list h;obtain⟨its',r',⟨o',n',e',_,_,d'⟩,_⟩:=I.list h';rw[e]at e';cases e';rw[d]at d';injection d' with d1 _;have:its=its':=by simpa using congrArg Array.toList d1
 subst this;exact r.inj r'
theorem Inv.tuple_inj (I:Inv X ac σ H s)(h:gc X.K H a xs)(h':gc X.K H a ys):xs=ys:=by
 obtain⟨its,r,⟨o,e,_,n,d⟩,_⟩:=I.tuple h;obtain⟨its',r',⟨o',e',_,n',d'⟩,_⟩:=I.tuple h';rw[e]at e';cases e';rw[d]at d';injection d' with d1 _;have:its=its':=by simpa using congrArg Array.toList d1
 subst this;exact r.inj r'
end
noncomputable abbrev Cx.wish (X:Cx)(E:Value->Shared->Prop):Cx:={ X with xe:=E }
noncomputable abbrev Cx.nox (X:Cx):Cx:=X.wish λ_ _=>False
theorem Cx.Ok.wish {X:Cx}(ok:X.Ok)(E:Value->Shared->Prop):(X.wish E).Ok :=
 ⟨ok.mod,ok.kind,ok.glob,ok.blt,ok.above,ok.inj,ok.has,ok.cab,ok.hd,ok.frames,ok.stk,ok.exf,ok.bs,ok.bsz,ok.noex,ok.exfs,ok.funs,ok.frf⟩
theorem Cx.Ok.unwish {X:Cx}{E:Value->Shared->Prop}(ok:(X.wish E).Ok):X.Ok :=
 ⟨ok.mod,ok.kind,ok.glob,ok.blt,ok.above,ok.inj,ok.has,ok.cab,ok.hd,ok.frames,ok.stk,ok.exf,ok.bs,ok.bsz,ok.noex,ok.exfs,ok.funs,ok.frf⟩
section
variable {X:Cx}{ac:List (Addr×Obj)}{σ:St}{H:Hp}{s:Shared}{E:Value->Shared->Prop}
theorem Inv.wish (I:Inv X ac σ H s)(E:Value->Shared->Prop):Inv (X.wish E) ac σ H s:=⟨I.ok.wish E,I.os,I.bare,I.base,I.loc,I.cell,I.free,I.freeC,I.pin,I.hok,I.len⟩
theorem Inv.unwish (I:Inv (X.wish E) ac σ H s):Inv X ac σ H s:=⟨I.ok.unwish,I.os,I.bare,I.base,I.loc,I.cell,I.free,I.freeC,I.pin,I.hok,I.len⟩
theorem SP.unwish (h:SP (X.wish E) ac D f s'):SP X ac D f s':=by
 cases f with
 |next=>obtain⟨σ',H',I,q⟩:=h;exact⟨σ',H',I.unwish,q⟩
 |brk=>obtain⟨σ',H',I,q⟩:=h;exact⟨σ',H',I.unwish,q⟩
 |cont=>obtain⟨σ',H',I,q⟩:=h;exact⟨σ',H',I.unwish,q⟩
 |ret u=>obtain⟨v,σ',H',I,r,q⟩:=h;exact⟨v,σ',H',I.unwish,r,q⟩
theorem PE.nox (h:PE X.nox e t):PE X e t:=λac s σ H Q I hw=>
 wpAny_mono (h ac s σ H Q (I.wish _) hw) (λ_ _ ⟨v,H',I',r,q⟩=>⟨v,H',I'.unwish,r,q⟩) λ_ _ z=>False.elim z
theorem PT.nox (h:PT X.nox e t):PT X e t:=λac s σ H Q I hw=>
 wpAny_mono (h ac s σ H Q (I.wish _) hw) (λ_ _ ⟨H',I',q⟩=>⟨H',I'.unwish,q⟩) λ_ _ z=>False.elim z
theorem ki.nox {st:List Stmt}{t:TS}(h:ki X.nox st t):ki X st t:=λac s σ H D I hw=>
 wpAny_mono (h ac s σ H D (I.wish _) hw) (λ_ _ q=>q.unwish) λ_ _ z=>False.elim z
end
section
variable {X:Cx}{st:Stmt}{aA:List Stmt}{t u:TS}{e:Expr}{te:TE}{pos:Pos}
def zU:TS:=λD σ H=>D.nx σ H
def Dh (t u:TS):TS:=λD σ H=>t { D with nx:=u D } σ H
theorem iH:ki X [] zU:=λ_ _ σ H _ I h=>wpAny_execs_nil ⟨σ,H,I,h⟩
theorem eA (h1:PS X st t)(h2:ki X aA u):ki X (st::aA) (Dh t u):=by
 intro ac s σ H D I h;refine wpAny_execs_cons (bY (h1 ac s σ H { D with nx:=u D } I h) λf s1 q=>?_);cases f with
 |next=>
  obtain⟨σ',H',I',q⟩:=q;exact h2 ac s1 σ' H' D I' q
 |ret v=>exact q
 |brk=>exact q
 |cont=>exact q
theorem dF (h1:PS X st t):ki X [st] t:=by
 intro ac s σ H D I h;refine wpAny_execs_cons (bY (h1 ac s σ H D I h) λf s1 q=>?_);cases f with
 |next=>exact wpAny_execs_nil q
 |ret v=>exact q
 |brk=>exact q
 |cont=>exact q
theorem Inv.quiet (I:Inv X ac σ H s):interactive X.env=false:=by simp[interactive,I.ok.kind]
def Di (te:TE):TS:=λD σ H=>te σ H λ_ H1=>D.nx σ H1
theorem r6 (he:PE X e te)(hs:swapsWith e none pos.line X.env=pure false:=by rfl):PS X (.Expr e pos) (Di te):=by
 intro ac s σ H D I h;exact wpAny_Expr_any (bY (he ac s σ H _ I h) λv s1 ⟨x,H1,I1,r1,q1⟩=>⟨σ,H1,I1,q1⟩) I.quiet hs
def xV (te:TE):TS:=λD σ H=>te σ H D.rt
theorem ig (he:PE X e te):PS X (.Return (some e) pos) (xV te):=by
 intro ac s σ H D I h;exact wpAny_Return_some (bY (he ac s σ H _ I h) λv s1 ⟨x,H1,I1,r1,q1⟩=>⟨x,σ,H1,I1,r1,q1⟩)
def Dj (c:TT)(t u:TS):TS:=λD σ H=>c σ H λb H1=>if b=true then t D σ H1 else u D σ H1
theorem lV {c:Expr}{a b:List Stmt}{tc:TT}(hc:PT X c tc)(ha:ki X a t)(hb:ki X b u):PS X (.If c a b pos) (Dj tc t u):=by
 intro ac s σ H D I h;refine wpAny_If (bY (hc ac s σ H _ I h) λd s1 ⟨H1,I1,q1⟩=>?_);cases d with
 |true=>exact ha ac s1 σ H1 D I1 q1
 |false=>exact hb ac s1 σ H1 D I1 q1
end
abbrev TG:=V->St->Hp->(St->Hp->Prop)->Prop
abbrev zV:=List V->St->Hp->(St->Hp->Prop)->Prop
def PG (X:Cx)(lx:Expr)(t:TG):Prop :=
 ∀(ac:List (Addr×Obj))(s:Shared)(σ:St)(H:Hp)(v:V)(u:Value)(Q:St->Hp->Prop),Inv X ac σ H s->aI v u->t v σ H Q ->
  wq X (assign lx X.env u) (λ_ s'=>∃σ' H',Inv X ac σ' H' s'/\Q σ' H') X.xe s
def Dk (X:Cx)(ts:List Expr)(t:zV):Prop :=
 ∀(ac:List (Addr×Obj))(s:Shared)(σ:St)(H:Hp)(vs:List V)(us:List Value)(Q:St->Hp->Prop),Inv X ac σ H s->aT vs us->t vs σ H Q ->
  wq X (assignInOrder ((assignEach ts X.env).map (·.2)) us) (λ_ s'=>∃σ' H',Inv X ac σ' H' s'/\Q σ' H') X.xe s
section
variable {X:Cx}{pos:Pos}
def iI (i:Nat):TG:=λv σ H Q=>Q (σ.set i (some v)) H
theorem rA (hN:X.N.Nodup)(hi:X.N[i]? = some x)(hx:zQ X.env.scope x)(hf:X.fn x=true∨X.env.scope.names.lookup x=some .local:=by first|exact .inl rfl|exact .inr rfl|assumption):PG X (.Name x pos) (iI i):=by
 intro ac s σ H v u Q I r h;exact wpAny_assign_Name (kh I hN hi hx r (λs' I'=>⟨_,H,I',h⟩) hf)
def Dl:zV:=λvs σ H Q=>vs=[]/\Q σ H
def zW (t:TG)(u:zV):zV:=λvs σ H Q=>∃v r,vs=v::r/\t v σ H λσ' H'=>u r σ' H' Q
theorem mP:Dk X [] Dl:=by
 intro ac s σ H vs us Q I r h;obtain⟨e,h⟩:=h;subst e;cases r
 exact assignInOrder_nil ⟨σ,H,I,h⟩
theorem fJ {e:Expr}{es:List Expr}{t:TG}{u:zV}(h1:PG X e t)(h2:Dk X es u)
  (hs:(assignEach (e::es) X.env).map (·.2)=assign e X.env::(assignEach es X.env).map (·.2):=by rfl):Dk X (e::es) (zW t u):=by
 intro ac s σ H vs us Q I r h;obtain⟨v,vr,e1,h⟩:=h;subst e1;cases r with
 |cons r rr=>
  rw[hs];refine assignInOrder_cons (bY (h1 ac s σ H _ _ _ I r h) λ_ s1 ⟨σ1,H1,I1,q1⟩=>?_);exact h2 ac s1 σ1 H1 _ _ Q I1 rr q1
def Dm (K:Frag)(n:Nat)(t:zV):TG:=λv σ H Q=>∃a xs,v=.ref a/\gc K H a xs/\xs.length=n/\t xs σ H Q
theorem uC (hc:X.calm=true)(h:Dk X es t)
  (hn:(assignEach es X.env).length=n:=by rfl) (jh:(assignEach es X.env).findIdx? (·.1)=none:=by rfl):PG X (.Tuple es k pos) (Dm X.K n t):=by
 intro ac s σ H v u Q I r hw;obtain⟨a,xs,e1,hq,hl,hw⟩:=hw;subst e1;cases r
 obtain⟨its,rv,ht,hz⟩:=I.tuple hq;refine assign_Tuple_tuple (I.ok.hd hc) ht (by simp[hn,←hl,rv.length]) jh λh' hx=>?_;have I1:Inv X ac σ H { s with heap:=h' }:=I.kept (t':=s.toks) λb o e=>hx b o (vS (vX e)) e;exact h ac _ σ H xs _ Q I1 (by simpa using rv) hw
def uD (te:TE)(g:TG):TS:=λD σ H=>te σ H λx H1=>g x σ H1 D.nx
theorem AS {tg e:Expr}{te:TE}{g:TG}(he:PE X e te)(hg:PG X tg g)(hs:swapsWithSole [tg] e pos.line X.env=pure false:=by rfl)(hw:swappedStores [tg] e X.env=pure none:=by rfl)
  (h1:(assignEach [tg] X.env).map (·.2)=[assign tg X.env]:=by rfl):PS X (.Assign [tg] e pos) (uD te g):=by
 intro ac s σ H D I h;refine wpAny_Assign_stores (bY (he ac s σ H _ I h) λv s1 ⟨x,H1,I1,r1,q1⟩=>?_) hs hw;rw[h1];exact bY (hg ac s1 σ H1 x v _ I1 r1 q1) λ_ s2 q=>q
theorem mQ {i:Nat}{x:Str}{e:Expr}{te:TE}{lR:Pos}(hN:X.N.Nodup)(hi:X.N[i]? = some x)(hx:zQ X.env.scope x)(he:PE X e te)(hs:swapsWith e (some (.Name x lR)) pos.line X.env=pure false:=by rfl)(hf:X.fn x=true∨X.env.scope.names.lookup x=some .local:=by first|exact .inl rfl|exact .inr rfl|assumption):
  PS X (.Assign [.Name x lR] e pos) (uD te (iI i)):=by
 intro ac s σ H D I h;refine wpAny_Assign_Name (bY (he ac s σ H _ I h) λv s1 ⟨y,H1,I1,r1,q1⟩=>?_) hs;exact kh I1 hN hi hx r1 (λs2 I2=>⟨_,H1,I2,q1⟩) hf
end
structure It where
 go:Nat->Hp->Prop
 yld:Nat->Hp->V->Hp->Prop
 stop:Nat->Hp->Prop
def iJ (X:Cx)(ac:List (Addr×Obj))(H:Hp)(b:Addr):Prop :=
 H b=none/\b≠X.env.locals/\b∉X.fs/\(b∈X.ex∨X.s₀.heap.objs.size<=b)/\(∀x c,X.env.cells.lookup x=some c->c≠b)/\∀p∈X.pn++ac,p.1≠b
theorem Inv.fpOk (I:Inv X ac σ H s)(hb:s.heap.objs.size<=b)(hn:H' b=none):iJ X ac H' b:=by
 refine⟨hn,Nat.ne_of_gt (vQ I.lt hb),I.nofs hb,.inr (vR I.sz hb),λx c e z=>?_,λp hp z=>?_⟩
 ·obtain⟨v,q⟩:=I.cell x c e;exact absurd (vQ q.lt (by rw[z];exact hb)) (Nat.lt_irrefl _)
 ·exact absurd (vQ (vX (I.pin p hp).1) (by rw[z];exact hb)) (Nat.lt_irrefl _)
structure Turn (P:Program)(w:World)(K:Frag)(tg:Expr)(J:It)(fp:List Addr)(it:Addr)(tn:Nat->Heap->Prop):Prop where
 mem:it∈fp
 obj:∀i h,tn i h->∀b∈fp,∃o,h.get? b=some o/\∀v,o.data≠.cell v
 keep:∀i h h',tn i h->(∀b∈fp,∀o,h.get? b=some o->h'.get? b=some o)->tn i h'
 item:∀(X:Cx),X.prog=P->X.w=w->X.K=K->X.calm=true->∀(i:Nat)(ac:List (Addr×Obj))(s:Shared)(σ:St)(H:Hp)(E:Value->Shared->Prop),Inv X ac σ H s->(∀b∈fp,iJ X ac H b)->tn i s.heap->J.go i H ->
  wpAny (model P w) X.A (pyNext (.ref it)) (λr s1=>∃u,r=some u /\
   wpAny (model P w) X.A (letOwnedTupleGo tg (.ref it) u) (λ_ s2=>∃x H',Inv X ac σ H' s2/\aI x u/\J.yld i H x H'/\tn (i+1) s2.heap/\∀b∈fp,H' b=none) E s1) E s
 done:∀(X:Cx),X.prog=P->X.w=w->X.K=K->X.calm=true->∀(i:Nat)(ac:List (Addr×Obj))(s:Shared)(σ:St)(H:Hp)(E:Value->Shared->Prop),Inv X ac σ H s->(∀b∈fp,iJ X ac H b)->tn i s.heap->J.stop i H ->
  wpAny (model P w) X.A (pyNext (.ref it)) (λr s1=>r=none/\Inv X ac σ H s1) E s
 self:∀(A:Around)(i:Nat)(s:Shared)(Q:Value->Shared->Prop)(E:Value->Shared->Prop),tn i s.heap->Q (.ref it) s->wpAny (model P w) A (pyIter (.ref it)) Q E s
abbrev TI:=St->Hp->(It->Hp->Prop)->Prop
def Iv (X:Cx)(ac:List (Addr×Obj))(σ:St)(tg:Expr)(R:It->Hp->Prop)(FQ:Value)(s2:Shared):Prop :=
 ∃(it:Addr)(fp:List Addr)(tn:Nat->Heap->Prop)(J:It)(H':Hp),FQ=.ref it/\Inv X ac σ H' s2/\Turn X.prog X.w X.K tg J fp it tn/\tn 0 s2.heap/\(∀b∈fp,iJ X ac H' b)/\R J H'
def PI (X:Cx)(tg bS:Expr)(wi:TI):Prop :=
 ∀(ac:List (Addr×Obj))(s:Shared)(σ:St)(H:Hp)(R:It->Hp->Prop),Inv X ac σ H s->wi σ H R ->
  wq X (eval bS X.env) (λv s1=>wq X (pyIter v) (Iv X ac σ tg R) X.xe s1) X.xe s
theorem oq (ho:s.heap.get? it=some o)(hc:o.cls=.type n)(hd:o.data=.fields vs)
    (hn:["enumerate","zip","dict_itemiterator","dict_reverseitemiterator","odict_iterator","itertools.zip_longest","itertools.pairwise"].contains n=false) (hQ:Q () s):wpAny M A (letOwnedTupleGo tg (.ref it) u) Q E s:=by
  unfold letOwnedTupleGo;cases tg<;>first
    |exact wY hQ
    | (cases u<;>first
        |exact wY hQ
        | (refine wX (wpAny_load ho ?_)
           rw[hc,hd]
           show wpAny M A (if(["enumerate","zip","dict_itemiterator","dict_reverseitemiterator","odict_iterator","itertools.zip_longest","itertools.pairwise"].contains n && vs[0]? == some (rawInt _))=true then _ else _) Q E s
           rw[if_neg (by intro h;rw[hn,Bool.false_and]at h;cases h)]
           exact wY hQ))
noncomputable def Iw (K:Frag)(a:Addr):It :=
 ⟨λi H=>∃xs x,gb K H a xs/\xs[i]? = some x,λi H x H'=>H'=H/\∀xs,gb K H a xs->xs[i]? = some x,λi H=>∃xs,gb K H a xs/\xs.length<=i⟩
noncomputable def Ix (K:Frag)(a:Addr):It :=
 ⟨λi H=>∃xs x,gc K H a xs/\xs[i]? = some x,λi H x H'=>H'=H/\∀xs,gc K H a xs->xs[i]? = some x,λi H=>∃xs,gc K H a xs/\xs.length<=i⟩
noncomputable def Dp (lo:Int)(n:Nat):It:=⟨λi _=>i<n,λi H x H'=>H'=H/\x=.int (lo+i),λi _=>n<=i⟩
theorem sX {P:Program}{w:World}{K:Frag}{tg:Expr}(a it:Addr):Turn P w K tg (Iw K a) [it] it (λi h=>h.IsListIter it a i) where
 mem:=by simp
 obj:=λi h st b hb=>by
  have e:b=it:=by simpa using hb
  subst e;obtain⟨o,e,c,d⟩:=st;exact⟨o,e,λv z=>by rw[d]at z;cases z⟩
 keep:=λi h h' st k=>st.at λo e=>k it (by simp) o e
 item:=by
  intro X hP hw hK hc i ac s σ H E I hf st hg;subst hP hw hK;obtain⟨xs,x,hq,hx⟩:=hg;obtain⟨its,rv,p,hz⟩:=I.list hq;obtain⟨u,hu,ru⟩:=rv.get hx;obtain⟨f0,f1,f2,f3,f4,f5⟩:=hf it (by simp);refine wpAny_pyNext_list_item st p.isList (x:=u) (by simpa using hu) λh' oi sb=>?_;have I1:Inv X ac σ H { s with heap:=h' }:=I.turned (t':=s.toks) (λb o hb e=>(sb.2 b hb).trans e) f0 f1 f3 f4 f5;obtain⟨o,e,c,d⟩:=id oi;exact⟨u,rfl,oq (s:={ s with heap:=h' }) e c d (by decide) ⟨x,H,I1,ru,⟨rfl,λys hy=>by rw[I.list_inj hy hq];exact hx⟩,oi,λb hb=>(hf b hb).1⟩⟩
 done:=by
  intro X hP hw hK hc i ac s σ H E I hf st hg;subst hP hw hK;obtain⟨xs,hq,hx⟩:=hg;obtain⟨its,rv,p,hz⟩:=I.list hq;obtain⟨f0,f1,f2,f3,f4,f5⟩:=hf it (by simp);have hl:=rv.length;exact wpAny_pyNext_list_end (I.ok.hd hc) st p.isList (by simp;omega) λh' eb=>⟨rfl,I.turned (t':=s.toks) (λb o hb e=>eb b o hb e) f0 f1 f3 f4 f5⟩
 self:=λ_ _ _ _ _ st h=>wpAny_pyIter_listiter st h
theorem qk {P:Program}{w:World}{K:Frag}{tg:Expr}(a it:Addr):Turn P w K tg (Ix K a) [it] it (λi h=>h.IsTupleIter it a i) where
 mem:=by simp
 obj:=λi h st b hb=>by
  have e:b=it:=by simpa using hb
  subst e;obtain⟨o,e,c,d⟩:=st;exact⟨o,e,λv z=>by rw[d]at z;cases z⟩
 keep:=λi h h' st k=>st.at λo e=>k it (by simp) o e
 item:=by
  intro X hP hw hK hc i ac s σ H E I hf st hg;subst hP hw hK;obtain⟨xs,x,hq,hx⟩:=hg;obtain⟨its,rv,p,hz⟩:=I.tuple hq;obtain⟨u,hu,ru⟩:=rv.get hx;obtain⟨f0,f1,f2,f3,f4,f5⟩:=hf it (by simp);refine wpAny_pyNext_tuple_item st (show s.heap.IsTuple a its.toArray from p) (x:=u) (by simpa using hu) λh' oi sb=>?_;have I1:Inv X ac σ H { s with heap:=h' }:=I.turned (t':=s.toks) (λb o hb e=>(sb.2 b hb).trans e) f0 f1 f3 f4 f5;obtain⟨o,e,c,d⟩:=id oi;exact⟨u,rfl,oq (s:={ s with heap:=h' }) e c d (by decide) ⟨x,H,I1,ru,⟨rfl,λys hy=>by rw[I.tuple_inj hy hq];exact hx⟩,oi,λb hb=>(hf b hb).1⟩⟩
 done:=by
  intro X hP hw hK hc i ac s σ H E I hf st hg;subst hP hw hK;obtain⟨xs,hq,hx⟩:=hg;obtain⟨its,rv,p,hz⟩:=I.tuple hq;obtain⟨f0,f1,f2,f3,f4,f5⟩:=hf it (by simp);have hl:=rv.length;exact wpAny_pyNext_tuple_end (I.ok.hd hc) st (show s.heap.IsTuple a its.toArray from p) (by simp;omega) λh' eb=>⟨rfl,I.turned (t':=s.toks) (λb o hb e=>eb b o hb e) f0 f1 f3 f4 f5⟩
 self:=λ_ _ _ _ _ st h=>wpAny_pyIter_tupleiter st h
theorem ql {P:Program}{w:World}{K:Frag}{tg:Expr}(it:Addr)(lo:Int)(n:Nat):Turn P w K tg (Dp lo n) [it] it (λi h=>IsRangeIter h it (lo+(i:Nat)*1) ((n:Int) - (i:Nat)) 1) where
 mem:=by simp
 obj:=λi h st b hb=>by
  have e:b=it:=by simpa using hb
  subst e;exact⟨_,st,λv z=>by
   have z':Data.fields _=Data.cell v:=z;cases z'⟩
 keep:=λi h h' st k=>k it (by simp) _ st
 item:=by
  intro X hP hw hK hc i ac s σ H E I hf st hg;subst hP hw hK;obtain⟨f0,f1,f2,f3,f4,f5⟩:=hf it (by simp);have W:=Walks.range (prog:=X.prog) (w:=X.w) (I.ok.hd hc) it lo 1 n;refine W.item i s _ _ hg st λv h' tk hv oi kk=>?_;obtain⟨t,rfl⟩:=hv;have I1:Inv X ac σ H { s with heap:=h',toks:=tk }:=I.turned (λb o hb e=>kk b o (by simpa using hb) e) f0 f1 f3 f4 f5;refine⟨_,rfl,oq (s:={ s with heap:=h',toks:=tk }) (n:="range_iterator") oi rfl rfl (by decide) ⟨.int (lo+i),H,I1,⟨t,?_⟩,⟨rfl,rfl⟩,oi,λb hb=>(hf b hb).1⟩⟩;rw[Int.mul_one]
 done:=by
  intro X hP hw hK hc i ac s σ H E I hf st hg;subst hP hw hK;obtain⟨f0,f1,f2,f3,f4,f5⟩:=hf it (by simp);exact wpAny_pyNext_range_end (I.ok.hd hc) st (by have:n<=i:=hg;omega) λh' eb=>⟨rfl,I.turned (t':=s.toks) (λb o hb e=>eb b o hb e) f0 f1 f3 f4 f5⟩
 self:=λ_ _ _ _ _ st h=>wpAny_pyIter_rangeiter st h
section
variable {X:Cx}{tg:Expr}
def Dq (K:Frag)(tl:TE):TI:=λσ H R=>tl σ H λx H1=>∃a,x=.ref a/\(∃xs,gb K H1 a xs)/\R (Iw K a) H1
def Gz (K:Frag)(tl:TE):TI:=λσ H R=>tl σ H λx H1=>∃a,x=.ref a/\(∃xs,gc K H1 a xs)/\R (Ix K a) H1
theorem xW {l:Expr}{tl:TE}(hl:PE X l tl):PI X tg l (Dq X.K tl):=by
 intro ac s σ H R I h;refine bY (hl ac s σ H _ I h) λv s1 ⟨x,H1,I1,r1,q1⟩=>?_;obtain⟨a,e,⟨xs,hq⟩,q⟩:=q1;subst e;cases r1
 obtain⟨its,rv,p,hz⟩:=I1.list hq;refine wpAny_pyIter_list p.isList ?_;refine⟨s1.heap.objs.size,[s1.heap.objs.size],_,_,H1,rfl,I1.kept (t':=s1.toks) λb o e=>vZ _ e,sX a _,⟨_,vY _ rfl,rfl,rfl⟩,λb hb=>?_,q⟩;have e:b=s1.heap.objs.size:=by simpa using hb
 subst e;exact I1.fpOk (vT _) (I1.hok.fresh (vT _))
theorem AT {l:Expr}{tl:TE}(hl:PE X l tl):PI X tg l (Gz X.K tl):=by
 intro ac s σ H R I h;refine bY (hl ac s σ H _ I h) λv s1 ⟨x,H1,I1,r1,q1⟩=>?_;obtain⟨a,e,⟨xs,hq⟩,q⟩:=q1;subst e;cases r1
 obtain⟨its,rv,p,hz⟩:=I1.tuple hq;refine wpAny_pyIter_tuple (show s1.heap.IsTuple a its.toArray from p) ?_;refine⟨s1.heap.objs.size,[s1.heap.objs.size],_,_,H1,rfl,I1.kept (t':=s1.toks) λb o e=>vZ _ e,qk a _,⟨_,vY _ rfl,rfl,rfl⟩,λb hb=>?_,q⟩;have e:b=s1.heap.objs.size:=by simpa using hb
 subst e;exact I1.fpOk (vT _) (I1.hok.fresh (vT _))
theorem ot {ac:List (Addr×Obj)}{σ:St}{H:Hp}{s:Shared}{R:It->Hp->Prop}{E:Value->Shared->Prop}{lo hi:Int}{t u v:Tok}{tk:Nat}(I:Inv X ac σ H s)(h1 : -(2 ^ 62)<=lo)(h2:lo<2 ^ 62)(h3 : -(2 ^ 62)<=hi)(h4:hi<2 ^ 62)
  (q:R (Dp lo (hi - lo).toNat) H):wq X (pyIter (.ref s.heap.objs.size)) (Iv X ac σ tg R) E { s with heap:=s.heap.push { cls:=.type "range",data:=.fields #[.int lo t,.int hi u,.int 1 v] },toks:=tk }:=by
 refine wpAny_pyIter_range (IsRange.new ..) (small_one h1 h2 h3 h4) ?_;have I1:Inv X ac σ H { s with heap:=s.heap.push { cls:=.type "range",data:=.fields #[.int lo t,.int hi u,.int 1 v] },toks:=tk }:=I.kept λb o e=>vZ _ e;refine⟨(s.heap.push { cls:=.type "range",data:=.fields #[.int lo t,.int hi u,.int 1 v] }).objs.size,[(s.heap.push { cls:=.type "range",data:=.fields #[.int lo t,.int hi u,.int 1 v] }).objs.size],_,_,H,rfl,
  I1.kept (t':=tk) λb o e=>vZ _ e,ql _ lo (hi - lo).toNat,?_,λb hb=>?_,q⟩
 ·have e1:lo+((0:Nat):Int)*1=lo:=by simp
  have e2:(((hi - lo).toNat:Nat):Int) - ((0:Nat):Int)=Builtin.Range.rangeSize lo hi 1:=by rw[rangeSize_one];split<;>omega
  show IsRangeIter _ _ (lo+((0:Nat):Int)*1) ((((hi - lo).toNat:Nat):Int) - ((0:Nat):Int)) 1;rw[e1,e2];exact vY _ rfl
 ·have e:b=(s.heap.push { cls:=.type "range",data:=.fields #[.int lo t,.int hi u,.int 1 v] }).objs.size:=by simpa using hb
  subst e;exact I1.fpOk (vT _) (I1.hok.fresh (vT _))
def Ds (ta:TA):TI:=λσ H R=>ta σ H λvs H1=>∃j:Int,vs=[.int j]/\-(2 ^ 62)<=j/\j<2 ^ 62/\R (Dp 0 j.toNat) H1
def Dt (ta:TA):TI:=λσ H R=>ta σ H λvs H1=>∃i j:Int,vs=[.int i,.int j]/\(-(2 ^ 62)<=i/\i<2 ^ 62/\-(2 ^ 62)<=j/\j<2 ^ 62)/\R (Dp i (j - i).toNat) H1
theorem sY {a:Expr}{ta:TA}{p pos:Pos}(hg:Gl X "range")(hm:X.mg "range" = none)(ha:PA X [a] ta)(hs:starEach [a] X.env=[(false,eval a X.env)]:=by rfl):PI X tg (.Call (.Name "range" p) [a] [] pos) (Ds ta):=by
 intro ac s σ H R I h;refine Call_ (g9 I hg hm boot_range (PyProof.Rows.callWith_type1 (bY (ha pos ac s σ H _ I h) λus s1 ⟨vs,H1,I1,r1,q1⟩=>?_) hs rfl));obtain⟨j,e,q1,q2,q⟩:=q1;subst e;cases r1 with
 |cons r rr=>
  cases rr
  obtain⟨t,rfl⟩:=r;exact call_range_1 (ot I1 (by omega) (by omega) q1 q2 (by simpa using q))
theorem sZ {a b:Expr}{ta:TA}{p pos:Pos}(hg:Gl X "range")(hm:X.mg "range" = none)(ha:PA X [a,b] ta)(hs:starEach [a,b] X.env=[(false,eval a X.env),(false,eval b X.env)]:=by rfl)(lE:starEach [b] X.env=[(false,eval b X.env)]:=by rfl):
  PI X tg (.Call (.Name "range" p) [a,b] [] pos) (Dt ta):=by
 intro ac s σ H R I h;refine Call_ (g9 I hg hm boot_range (PyProof.Rows.callWith_type1 (bY (ha pos ac s σ H _ I h) λus s1 ⟨vs,H1,I1,r1,q1⟩=>?_) (by rw[hs,lE]) (by rw[lE];rfl)));obtain⟨i,j,e,⟨q1,q2,q3,q4⟩,q⟩:=q1;subst e;cases r1 with
 |cons r rr=>
  cases rr with
  |cons r' rr=>
   cases rr
   obtain⟨t,rfl⟩:=r;obtain⟨t',rfl⟩:=r';exact call_range_2 (ot I1 q1 q2 q3 q4 q)
def AU (wi:TI)(g:TG)(tb:TS):TS:=λD σ H=>wi σ H λJ H1=>∃W:Nat->Nat->St->Hp->Prop,(∃m,W 0 m σ H1)/\∀i m σ H,W i m σ H ->
 (J.stop i H/\D.nx σ H)∨(J.go i H/\∃N:St->Hp->Prop,(∀σ' H',N σ' H'->∃m',m'<m/\W (i+1) m' σ' H')/\∀x H',J.yld i H x H'->g x σ H' λσ2 H2=>tb { D with nx:=N,ct:=N,bk:=D.nx } σ2 H2)
def jj (fp:List Addr)(h:Heap):List (Addr×Obj):=fp.filterMap λb=>(h.get? b).map λo=>(b,o)
theorem ge {fp:List Addr}{h:Heap}{b:Addr}{o:Obj}(hb:b∈fp)(e:h.get? b=some o):(b,o)∈jj fp h:=List.mem_filterMap.mpr ⟨b,hb,by rw[e];rfl⟩
theorem td (hp:p∈jj fp h):p.1∈fp/\h.get? p.1=some p.2:=by
 obtain⟨b,hb,e⟩:=List.mem_filterMap.mp hp;cases q:h.get? b with
 |none=>rw[q]at e;cases e
 |some o=>
  rw[q]at e;have e':(b,o)=p:=vJ e;subst e';exact⟨hb,q⟩
theorem Inv.pinned (I:Inv X ac σ H s)(hf:∀b∈fp,iJ X ac H b)(ho:∀b∈fp,∃o,s.heap.get? b=some o/\∀v,o.data≠.cell v):Inv X (ac++jj fp s.heap) σ H s :=
 I.pins_of λp hp=>(List.mem_append.mp hp).elim (λz=>I.pin p (mY _ z)) λz=>by
  obtain⟨hb,e⟩:=td z;obtain⟨f0,f1,f2,_⟩:=hf p.1 hb;obtain⟨o,e',d⟩:=ho p.1 hb;rw[e]at e';cases e';exact⟨e,f0,f1,f2,d⟩
theorem Inv.unpinned (I:Inv X (ac++pl) σ H s):Inv X ac σ H s:=I.pins_of λp hp=>I.pin p (mY _ (List.mem_append_left _ hp))
theorem qm {bS:Expr}{body:List Stmt}{wi:TI}{g:TG}{tb:TS}{pos:Pos}(hp:PassesOwn (model X.prog X.w) X.A X.env X.xe)(hc:X.calm=true)(hi:PI X tg bS wi)(hg:PG X tg g)(hb:ki X body tb)
  (hs:∀x,foldedSetIterable bS X.env x=pure x:=by intro _;rfl):PS X (.For tg bS body [] pos) (AU wi g tb):=by
 intro ac s σ H D I h;refine wpAny_For (bY (hi ac s σ H _ I h) λv s1 h1=>bY h1 λFQ s2 h2=>?_) hs;obtain⟨it,fp,tn,J,H2,e,I2,T,rj,f2,W,⟨m0,w0⟩,Cf⟩:=h2;subst e
 -- what stays true of the iterator's objects through the ut
 have Cg:∀ {H':Hp},(∀b∈fp,H' b=none)->∀b∈fp,iJ X ac H' b:=λhn b hb=>⟨hn b hb,(f2 b hb).2⟩;refine codeAny_forLoop_any (λn s'=>∃i σ' H',Inv X ac σ' H' s'/\tn i s'.heap/\(∀b∈fp,H' b=none)/\W i n σ' H') ?_ m0 ⟨0,σ,H2,I2,rj,λb hb=>(f2 b hb).1,w0⟩;rintro n s3 ⟨i,σ3,H3,I3,E7,IU,w3⟩;rcases Cf i n σ3 H3 w3 with⟨stop,qn⟩|⟨go,N,hN,step⟩
 ·refine wpAny_passesOwn hp (bY (T.done X rfl rfl rfl hc i ac s3 σ3 H3 X.xe I3 (Cg IU) E7 stop) λr s4 ⟨hr,I4⟩=>?_);subst hr;exact wpAny_execs_nil ⟨σ3,H3,I4,qn⟩
 ·refine wpAny_passesOwn hp (bY (T.item X rfl rfl rfl hc i ac s3 σ3 H3 X.xe I3 (Cg IU) E7 go) λr s4 ⟨u,hr,h4⟩=>?_);subst hr;refine wpAny_passesOwn hp (bY h4 λ_ s5 ⟨x,H5,I5,r5,y5,Hj,Hk⟩=>?_);have KN:=I5.pinned (Cg Hk) (T.obj _ _ Hj);refine wpAny_passesOwn hp (bY (hg _ s5 σ3 H5 x u _ KN r5 (step x H5 y5)) λ_ s6 ⟨σ6,H6,I6,q6⟩=>?_);refine wpAny_passesOwn hp (bY (hb _ s6 σ6 H6 _ I6 q6) λf s7 q7=>?_);have again:∀ {σ7:St}{H7:Hp},Inv X (ac++jj fp s5.heap) σ7 H7 s7->N σ7 H7->∃m,m<n/\∃i σ' H',Inv X ac σ' H' s7/\tn i s7.heap/\(∀b∈fp,H' b=none)/\W i m σ' H':=λ{σ7 H7} I7 n7=>by
   obtain⟨m',hm,w7⟩:=hN σ7 H7 n7;refine⟨m',hm,i+1,σ7,H7,I7.unpinned,T.keep _ _ _ Hj λb hb o e=>(I7.pin (b,o) (mY _ (mY _ (ge hb e)))).1,λb hb=>?_,w7⟩;obtain⟨o,e,d⟩:=T.obj _ _ Hj b hb;exact(I7.pin (b,o) (mY _ (mY _ (ge hb e)))).2.1
  cases f with
  |next=>obtain⟨σ7,H7,I7,n7⟩:=q7;exact again I7 n7
  |cont=>obtain⟨σ7,H7,I7,n7⟩:=q7;exact again I7 n7
  |brk=>obtain⟨σ7,H7,I7,q7⟩:=q7;exact⟨σ7,H7,I7.unpinned,q7⟩
  |ret v=>obtain⟨x7,σ7,H7,I7,r7,q7⟩:=q7;exact⟨x7,σ7,H7,I7.unpinned,r7,q7⟩
end
abbrev R2:=V->V->Hp->VK->Prop
def cG (X:Cx)(f:Value->Value->Sem Value)(r:R2):Prop :=
 ∀(ac:List (Addr×Obj))(s:Shared)(σ:St)(H:Hp)(x y:V)(v u:Value)(Q:VK),Inv X ac σ H s->aI x v->aI y u->r x y H Q ->
  wq X (f v u) (EP X ac σ Q) X.xe s
def bN (X:Cx)(f:Value)(r:List V->Hp->VK->Prop):Prop :=
 ∀(ac:List (Addr×Obj))(s:Shared)(σ:St)(H:Hp)(xs:List V)(us:List Value)(Q:VK),Inv X ac σ H s->aT xs us->r xs H Q ->
  wq X (call f us) (EP X ac σ Q) X.xe s
def F6 (r:R2)(ta tb:TE):TE:=λσ H Q=>ta σ H λx H1=>tb σ H1 λy H2=>r x y H2 Q
def rI (C:Int->Int->Prop)(g:Int->Int->V):R2:=λx y H Q=>∃i j,x=.int i/\y=.int j/\C i j/\Q (g i j) H
def xX (g:Int->Int->V):R2:=λx y H Q=>∃i j,x=.int i/\y=.int j/\Q (g i j) H
section
variable {X:Cx}{a b c:Expr}{ta tb tc:TE}{pos:Pos}
theorem AV (ha:PE X a ta)(hb:PE X b tb){ac:List (Addr×Obj)}{s:Shared}{σ:St}{H:Hp}{R:V->V->Hp->Prop}(I:Inv X ac σ H s)
  (h:ta σ H λx H1=>tb σ H1 λy H2=>R x y H2) {Q:Value->Shared->Prop}{f:Value->Value->Sem Value}
  (hf:∀v u s2 x y H2,Inv X ac σ H2 s2->aI x v->aI y u->R x y H2->wq X (f v u) Q X.xe s2):
  wq X (eval a X.env) (λv s₁=>wq X (eval b X.env) (λu s₂=>wq X (f v u) Q X.xe s₂) X.xe s₁) X.xe s:=by
 refine bY (ha ac s σ H _ I h) λv s1 ⟨x,H1,I1,r1,q1⟩=>?_;refine bY (hb ac s1 σ H1 _ I1 q1) λu s2 ⟨y,H2,I2,r2,q2⟩=>?_;exact hf v u s2 x y H2 I2 r1 r2 q2
theorem zX {op:Operator}{r:R2}(ho:cG X (binaryOp op) r)(ha:PE X a ta)(hb:PE X b tb):PE X (.BinOp a op b pos) (F6 r ta tb):=by
 intro ac s σ H Q I h;exact wpAny_BinOp (AV ha hb I h λv u s2 x y H2 I2 rx ry q=>ho ac s2 σ H2 x y v u Q I2 rx ry q)
theorem G0 {f:Value->Value->Sem Value}{C:Int->Int->Prop}{g:Int->Int->Int}
  (rule:∀(i j:Int)(t u:Tok)(s:Shared)(Q:Value->Shared->Prop)(E:Value->Shared->Prop),C i j->Q (.int (g i j) s.toks) { s with toks:=s.toks+1 }->wq X (f (.int i t) (.int j u)) Q E s):
  cG X f (rI C λi j=>.int (g i j)):=by
 intro ac s σ H x y v u Q I rx ry h;obtain⟨i,j,rfl,rfl,hc,q⟩:=h;obtain⟨t,rfl⟩:=rx;obtain⟨t',rfl⟩:=ry;exact rule i j t t' s _ _ hc ⟨.int (g i j),H,I.tok _,⟨_,rfl⟩,q⟩
theorem Du {f:Value->Value->Sem Value}{g:Int->Int->Int}
  (rule:∀(i j:Int)(t u:Tok)(s:Shared)(Q:Value->Shared->Prop)(E:Value->Shared->Prop),Q (.int (g i j) s.toks) { s with toks:=s.toks+1 }->wq X (f (.int i t) (.int j u)) Q E s):
  cG X f (xX λi j=>.int (g i j)):=by
 intro ac s σ H x y v u Q I rx ry h;obtain⟨i,j,rfl,rfl,q⟩:=h;obtain⟨t,rfl⟩:=rx;obtain⟨t',rfl⟩:=ry;exact rule i j t t' s _ _ ⟨.int (g i j),H,I.tok _,⟨_,rfl⟩,q⟩
theorem xY {f:Value->Value->Sem Value}{g:Int->Int->Bool}
  (rule:∀(i j:Int)(t u:Tok)(s:Shared)(Q:Value->Shared->Prop)(E:Value->Shared->Prop),Q (.bool (g i j)) s->wq X (f (.int i t) (.int j u)) Q E s):
  cG X f (xX λi j=>.bl (g i j)):=by
 intro ac s σ H x y v u Q I rx ry h;obtain⟨i,j,rfl,rfl,q⟩:=h;obtain⟨t,rfl⟩:=rx;obtain⟨t',rfl⟩:=ry;exact rule i j t t' s _ _ ⟨.bl (g i j),H,I,rfl,q⟩
def Dv (i j:Int):Prop:=0<j/\j<1073741824
def xZ (i j:Int):Prop:=(-(2 ^ 64)<i/\i<2 ^ 64)∨(-(2 ^ 64)<j/\j<2 ^ 64)
theorem xZ.ok (h:xZ i j):IntMulOk i j:=by
 rcases h with⟨h1,h2⟩|⟨h1,h2⟩
 ·exact .of_left (intBits_le_64 h1 h2)
 ·exact .of_right (intBits_le_64 h1 h2)
theorem AW:cG X (binaryOp .Add) (xX λi j=>.int (i+j)):=Du λ_ _ _ _ _ _ _ q=>add_int q
theorem AX:cG X (binaryOp .Sub) (xX λi j=>.int (i - j)):=Du λ_ _ _ _ _ _ _ q=>sub_int q
theorem AY:cG X (binaryOp .Mult) (rI xZ λi j=>.int (i*j)):=G0 λ_ _ _ _ _ _ _ hc q=>mul_int q hc.ok
theorem ya:cG X (binaryOp .FloorDiv) (rI Dv λi j=>.int (i / j)):=G0 λi j _ _ _ _ _ hc q=>by
 have h1:(0:Int)<j:=hc.1;have h2:j<1073741824:=hc.2;exact floordiv_int (by omega) (by rw[Int.fdiv_eq_ediv_of_nonneg i (by omega)];exact q) (.inl (PyProof.noPylong_small (by omega)))
theorem AZ:cG X (binaryOp .Mod) (rI (λ_ j=>0<j) λi j=>.int (i % j)):=G0 λi j _ _ _ _ _ hc q=>by
 have h1:(0:Int)<j:=hc;exact mod_int' (by omega) (by rw[Int.fmod_eq_emod_of_nonneg i (by omega)];exact q)
theorem tf:cG X (binaryOp .Add) (λx y H Q=>∃i k,x=.int i/\y=.bl k/\Q (.int (i+b2i k)) H):=by
 intro ac s σ H x y v u Q I rx ry h;obtain⟨i,k,rfl,rfl,q⟩:=h;obtain⟨t,rfl⟩:=rx;cases ry
 exact add_int_bool ⟨.int (i+b2i k),H,I.tok _,⟨_,rfl⟩,q⟩
end
section
variable {X:Cx}{a b c:Expr}{ta tb tc:TE}{pos:Pos}
theorem Dw:cG X (compareOp .Lt) (xX λi j=>.bl (decide (i<j))):=xY λ_ _ _ _ _ _ _ q=>lt_int q
theorem Dx:cG X (compareOp .LtE) (xX λi j=>.bl (decide (i<=j))):=xY λ_ _ _ _ _ _ _ q=>le_int q
theorem Dy:cG X (compareOp .Gt) (xX λi j=>.bl (decide (j<i))):=xY λ_ _ _ _ _ _ _ q=>gt_int q
theorem Dz:cG X (compareOp .GtE) (xX λi j=>.bl (decide (j<=i))):=xY λ_ _ _ _ _ _ _ q=>ge_int q
theorem cG.or (h:cG X f r)(h':cG X f r'):cG X f (λx y H Q=>r x y H Q∨r' x y H Q):=by
 intro ac s σ H x y v u Q I rx ry q;rcases q with q|q
 ·exact h ac s σ H x y v u Q I rx ry q
 ·exact h' ac s σ H x y v u Q I rx ry q
theorem G1 (b:Expr)(h:op≠.In:=by decide)(h2:op≠.NotIn:=by decide):behindInMarks op b=false:=by
 have e1:(op == CmpOp.In)=false:=by cases op<;>first|rfl|exact absurd rfl h
 have e2:(op == CmpOp.NotIn)=false:=by cases op<;>first|rfl|exact absurd rfl h2
 cases b<;>simp[behindInMarks,e1,e2]
theorem yc (ho:cG X (compareOp op) r)(ha:PE X a ta)(hb:PE X b tb)(hm:behindInMarks op b=false):PE X (.Compare a [op] [b] pos) (F6 r ta tb):=by
 intro ac s σ H Q I h;exact wpAny_Compare1 (AV ha hb I h λv u s2 x y H2 I2 rx ry q=>ho ac s2 σ H2 x y v u Q I2 rx ry q) hm
def zY (t:TE):TT:=λσ H Q=>t σ H λx H'=>∃k,x=.bl k/\Q k H'
theorem rB {op:CmpOp}{r:R2}(ho:cG X (compareOp op) r)(ha:PE X a ta)(hb:PE X b tb)(hm:behindInMarks op b=false):PT X (.Compare a [op] [b] pos) (zY (F6 r ta tb)):=by
 intro ac s σ H Q I h;refine wpAny_isTrue_Compare1 (bY (ha ac s σ H _ I h) λv s1 ⟨x,H1,I1,r1,q1⟩=>bY (hb ac s1 σ H1 _ I1 q1) λu s2 ⟨y,H2,I2,r2,q2⟩=>
  bY (ho ac s2 σ H2 x y v u _ I2 r1 r2 q2) λc s3 ⟨z,H3,I3,r3,k,e,q3⟩=>?_) hm
 subst e;cases r3
 exact wpAny_truthy_bool ⟨H3,I3,q3⟩
def qo (r r':R2)(ta tb tc:TE):TE:=λσ H Q=>ta σ H λx H1=>tb σ H1 λy H2=>r x y H2 λz H3=>∃k,z=.bl k /\
 (if k=true then tc σ H3 λw' H4=>r' y w' H4 Q else Q (.bl false) H3)
theorem uE {op uu:CmpOp}{r r':R2}(ho:cG X (compareOp op) r)(og:cG X (compareOp uu) r')(ha:PE X a ta)(hb:PE X b tb)(hc:PE X c tc)
  (hm:lastMarks [op,uu] [b,c]=false:=by with_unfolding_all rfl):PE X (.Compare a [op,uu] [b,c] pos) (qo r r' ta tb tc):=by
 intro ac s σ H Q I h;refine Compare_chain (bY (ha ac s σ H _ I h) λv s1 ⟨x,H1,I1,r1,q1⟩=>chain_link (bY (hb ac s1 σ H1 _ I1 q1) λu s2 ⟨y,H2,I2,r2,q2⟩=>
  bY (ho ac s2 σ H2 x y v u _ I2 r1 r2 q2) λd s3 ⟨z,H3,I3,r3,k,e,q3⟩=>?_)) hm
 subst e;cases r3
 refine wpAny_truthy_bool ?_;cases k with
 |false=>exact ite_ff ⟨.bl false,H3,I3,rfl,q3⟩
 |true=>exact ite_tt (chain_last (bY (hc ac s3 σ H3 _ I3 q3) λw' s4 ⟨z',H4,I4,r4,q4⟩=>og ac s4 σ H4 y z' u w' Q I4 r2 r4 q4))
theorem uF {op uu:CmpOp}{r r':R2}(ho:cG X (compareOp op) r)(og:cG X (compareOp uu) r')(ha:PE X a ta)(hb:PE X b tb)(hc:PE X c tc)
  (hm:lastMarks [op,uu] [b,c]=false:=by with_unfolding_all rfl):PT X (.Compare a [op,uu] [b,c] pos) (zY (qo r r' ta tb tc)):=by
 intro ac s σ H Q I h;refine isTrue_chain (bY (ha ac s σ H _ I h) λv s1 ⟨x,H1,I1,r1,q1⟩=>test_link (bY (hb ac s1 σ H1 _ I1 q1) λu s2 ⟨y,H2,I2,r2,q2⟩=>
  bY (ho ac s2 σ H2 x y v u _ I2 r1 r2 q2) λd s3 ⟨z,H3,I3,r3,k,e,q3⟩=>?_)) hm
 subst e;cases r3
 refine wpAny_truthy_bool ?_;cases k with
 |false=>
  obtain⟨k',e',q'⟩:=q3;cases e'
  exact ite_ff ⟨H3,I3,q'⟩
 |true=>
  refine ite_tt (test_last (bY (hc ac s3 σ H3 _ I3 q3) λw' s4 ⟨z',H4,I4,r4,q4⟩=>bY (og ac s4 σ H4 y z' u w' _ I4 r2 r4 q4) λd' s5 ⟨z2,H5,I5,r5,k2,e2,q5⟩=>?_));subst e2;cases r5
  exact wpAny_truthy_bool ⟨H5,I5,q5⟩
theorem kj:(sizeLine:Nat)<2 ^ 63:=by rw[sizeLine_eq];decide
theorem qp:cG X (binaryOp .Add) (λx y H Q=>∃i j,x=.str i/\y=.str j/\i.length+j.length<=sizeLine/\Q (.str (i++j)) H):=by
 intro ac s σ H x y v u Q I rx ry h;obtain⟨i,j,rfl,rfl,hz,q⟩:=h;obtain⟨t,rfl⟩:=rx;obtain⟨t',rfl⟩:=ry;exact add_str (λt' tk=>⟨.str (i++j),H,I.tok _,⟨_,rfl⟩,q⟩) hz
theorem kl (r:aT [x] us):∃u,us=[u]/\aI x u:=by
 cases r with
 |cons r1 r2=>cases r2;exact⟨_,rfl,r1⟩
theorem uG (r:aT [x,y] us):∃u w',us=[u,w']/\aI x u/\aI y w':=by
 cases r with
 |cons r1 r2=>
  cases r2 with
  |cons r3 r4=>cases r4;exact⟨_,_,rfl,r1,r3⟩
theorem tm (hc:X.calm=true):bN X (.builtin "min") (λxs H Q=>∃i j,xs=[.int i,.int j]/\Q (.int (if j<i then j else i)) H):=by
 intro ac s σ H xs us Q I r h;obtain⟨i,j,rfl,q⟩:=h;obtain⟨u,w',rfl,⟨t,rfl⟩,⟨t',rfl⟩⟩:=uG r;refine min_two_ints (I.ok.hd hc) λh' tk k=>⟨_,H,I.kept k,?_,q⟩;by_cases hj:j<i
 ·rw[if_pos hj,if_pos hj];exact⟨_,rfl⟩
 ·rw[if_neg hj,if_neg hj];exact⟨_,rfl⟩
end
structure z0 (h:Heap)(x dx C:Addr)(mA:Str->Option Value):Prop where
 obj:h.get? x=some (PySem.W.instObj C dx)
 ns:h.Ns1 dx mA
 ne:dx≠x
theorem lW {h:Heap}{dx:Addr}{mA:Str->Option Value}(n:h.Ns1 dx mA):∃od,h.get? dx=some od/\∀name,PySem.W.lookIn name od=some (mA name):=by
 obtain⟨o,es,ep,ho,hd,hk,_,hm⟩:=n;refine⟨o,ho,λname=>?_⟩;have e:=hm name;unfold nsFind findBy at e;rw[←Array.find?_toList]at e;unfold PySem.W.lookIn;rw[hd];dsimp only;split
 ·rename_i y q;rw[q]at e;exact congrArg some e
 ·rename_i q;rw[q]at e;have a:es.toList.any (·.refKey)=false:=by
   rw[List.any_eq_false];intro y hy;obtain⟨z,t,z4⟩:=hk y (Array.mem_toList_iff.mp hy);simp[DictEntry.refKey,z4]
  have a':¬es.toList.any (·.refKey)=true:=by rw[a];exact uX
  rw[if_neg a'];exact congrArg some e
theorem z0.look (I:z0 h x dx C mA):∃od,PySem.W.InstAt h x (PySem.W.instObj C dx) C (some od)/\∀name,PySem.W.lookIn name od=some (mA name) :=
 let ⟨od,ho,hl⟩:=lW I.ns
 ⟨od,⟨I.obj,rfl,rfl,ho⟩,hl⟩
section
variable {prog:Program}{w:World}{A:Around}{E:Value->Shared->Prop}{s:Shared}{K:Frag}{x dx C f:Addr}{mA:Str->Option Value}{name:Str}{v:Value}
theorem uH (X:K.In s.heap)(I:z0 s.heap x dx C mA)(hg:PySem.W.plainGet K C name=true)
  (hf:PySem.W.findIn K (.ref C) name=some (some (.ref f))) (ht:PySem.W.isFn K (.ref f)=true) (hv:mA name=none) (h:Q (.ref f,[.ref x]) s):
  wpAny (model prog w) A (getMethod (.ref x) name pl) Q E s:=by
 obtain⟨od,J,hl⟩:=I.look;exact PySem.W.method_fn X J (PySem.W.plainGet_of hg).1 (PySem.W.plainGet_of hg).2 hf (beq_iff_eq.mp ht) (by show(PySem.W.lookIn name od).map (·.isSome)=some false;rw[hl,hv];rfl) h
theorem D0 (X:K.In s.heap)(hm:PySem.W.makesIn K C=true)
  (hi:PySem.W.findIn K (.ref C) "__init__" = some (some (.ref f))) (hf:PySem.W.typeIn K (.ref f)=some (.type "function"))
  (h:codeAny (model prog w) (A.under (.builtin "type.__call__" ⟨.ref C::vs,kw⟩)) (.call (.ref f) ⟨.ref (s.heap.objs.size+1)::vs,kw⟩) (PySem.W.InitBack (s.heap.objs.size+1) R)
   { s with heap:=(s.heap.push PySem.W.emptyDict).push (PySem.W.instObj C s.heap.objs.size) }):
  codeAny (model prog w) A (.call (.ref C) ⟨vs,kw⟩) R s:=by
 obtain⟨hh,g,d,t,os⟩:=s;exact PySem.W.make_core (PySem.W.makes_of X hm) (PySem.W.looks_findIn X hi) (λself=>PySem.W.bind_fn X self hf) (.inl rfl) h
end
theorem lF.none_of (r:lF none o):o=none:=by
 cases o with
 |none=>rfl
 |some u=>exact(show False from r).elim
section
variable {P:Program}{w:World}{H H':Hp}{h h':Heap}{a C dx:Addr}{fs KL:List (Str×V)}
theorem rC (hok:j4 P w H h)(e:H a=some (.ins C dx fs)):∃mA,z0 h a dx C mA/\(∀f,lF (fs.lookup f) (mA f))/\PySem.Within mA (fs.map (·.1))/\fs.length<=1000/\H dx=some (.own a):=by
 obtain⟨d,z,ne,ob,mA,n,r,q⟩:=(show bD P w H h a (.ins C dx fs)from hok a _ e);exact⟨mA,⟨ob,n,ne⟩,r,q,z,d⟩
end
structure Cls (K:Frag)(C:Addr):Prop where
 pg:PySem.W.plainGet K C Str.empty=true
 hd:PySem.W.hasDictIn K C=true
 po:PySem.W.plainOver K C=true
 sa:PySem.W.findIn K (.ref C) "__setattr__" = some (some (.builtin "object.__setattr__"))
theorem Cls.get {K:Frag}{C:Addr}(c:Cls K C)(f:Str):PySem.W.plainGet K C f=true:=c.pg
def Ba (K:Frag)(C:Addr)(f:Str):Prop:=PySem.W.findIn K (.ref C) f=some none
structure Meth (K:Frag)(C:Addr)(m:Str)(f:Addr):Prop where
 at_:PySem.W.findIn K (.ref C) m=some (some (.ref f))
 fn:PySem.W.isFn K (.ref f)=true
 kp:PySem.W.keepIn K (.ref f)=true
section
variable {X:Cx}{ac:List (Addr×Obj)}{σ:St}{H:Hp}{s:Shared}{a C dx:Addr}{fs:List (Str×V)}{f:Str}{v:V}{A:Around}{E:Value->Shared->Prop}
theorem qt {m:Str}{g:Addr}{pl:Sem Bool}{Q:Value×List Value->Shared->Prop}(I:Inv X ac σ H s)(e:H a=some (.ins C dx fs))(c:Cls X.K C)(k:Meth X.K C m g)(l:fs.lookup m=none)
  (h:Q (.ref g,[.ref a]) s):wpAny (model X.prog X.w) A (getMethod (.ref a) m pl) Q E s:=by
 obtain⟨mA,O,r,_,_,_⟩:=rC I.hok e;have hn:mA m=none:=lF.none_of (by rw[←l];exact r m);exact uH I.kIn O (c.get m) k.at_ k.fn hn h
theorem Inv.made (I:Inv X ac σ H s):Inv X ac σ (upd (upd H s.heap.objs.size (.own (s.heap.objs.size+1))) (s.heap.objs.size+1) (.ins C s.heap.objs.size []))
  { s with heap:=(s.heap.push PySem.W.emptyDict).push (PySem.W.instObj C s.heap.objs.size) }:=by
 have e1:(s.heap.push PySem.W.emptyDict).get? s.heap.objs.size=some PySem.W.emptyDict:=vY s.heap rfl;have e2:((s.heap.push PySem.W.emptyDict).push (PySem.W.instObj C s.heap.objs.size)).get? (s.heap.objs.size+1)=some (PySem.W.instObj C s.heap.objs.size):=by
  have:=vY (s.heap.push PySem.W.emptyDict) (o:=PySem.W.instObj C s.heap.objs.size) rfl;rwa [Heap.size_push]at this
 have e3:(s.heap.push PySem.W.emptyDict).Ns s.heap.objs.size (λ_=>none):=⟨PySem.W.emptyDict,#[],_,e1,rfl,(λe he=>absurd he (by simp)),λ_=>rfl⟩;have I1:=I.laid (a:=s.heap.objs.size) (o:=.own (s.heap.objs.size+1)) (h':=s.heap.push PySem.W.emptyDict) (t':=s.toks) (λb u q=>vZ _ q) (vT _) ⟨_,e1⟩;refine I1.laid (a:=s.heap.objs.size+1) (o:=.ins C s.heap.objs.size []) (t':=s.toks) (λb u q=>vZ _ q) (Nat.le_of_eq (Heap.size_push _ _)) ?_;have ne:s.heap.objs.size≠s.heap.objs.size+1:=vS (Nat.lt_succ_self _);refine⟨by rw[au ne,aw],uN _,ne,e2,λ_=>none,(Heap.Ns1.of_empty e3).at λo q=>vZ _ q,λ_=>True.intro,λy hy=>absurd rfl hy⟩
theorem ye {prog:Program}{w:World}{env:Env}{e:Expr}{f:Str}{pos:Pos}{s:Shared}{Q:Value->Shared->Prop}(hb:attributeBase e f env (eval e env)=eval e env)
  (h:wpAny (model prog w) A (eval e env) (λo s₁=>wpAny (model prog w) A (getAttr o f true) Q E s₁) E s):wpAny (model prog w) A (eval (.Attribute e f pos) env) Q E s :=
 Attribute_any_ h (by rw[arm_eval_Attribute,hb])
end
def Kg (K:Frag)(ta:TE)(f:Str):TE:=λσ H Q=>ta σ H λx H1=>∃a C dx fs v,x=.ref a/\H1 a=some (.ins C dx fs)/\Cls K C/\Ba K C f/\fs.lookup f=some v/\Q v H1
section
variable {X:Cx}{o e value:Expr}{f:Str}{pos lR KO:Pos}{ta tv:TE}
theorem zZ {pl:Sem Bool}{m:Str}{gX:Pos}{args:List Expr}{ac:List (Addr×Obj)}{s:Shared}{σ:St}{H:Hp}{Q:Value->Shared->Prop}{te:TE}(he:PE X e te)(I:Inv X ac σ H s)
  (h:te σ H λx H1=>∃a C dx fs g,x=.ref a/\H1 a=some (.ins C dx fs)/\Cls X.K C/\Meth X.K C m g/\fs.lookup m=none /\
   ∀s1,Inv X ac σ H1 s1->wq X (callWith pos (.ref g) [.ref a] (backTo pos (starEach args X.env)) (backToKw pos (keywordEach [] X.env))) Q X.xe s1)
  (ht:eval (.Call (.Attribute e m gX) args [] pos) X.env=(do
   let ov ←eval e X.env
   standAt gX.atName
   let (f,first) ←holding [ov] (getMethod ov m pl)
   callWith pos f first (backTo pos (starEach args X.env)) (backToKw pos (keywordEach [] X.env)))):
  wq X (eval (.Call (.Attribute e m gX) args [] pos) X.env) Q X.xe s:=by
 refine PySem.W.methodCall_KW (pl:=pl) (bY (he ac s σ H _ I h) λu s1 ⟨x,H1,I1,rx,a,C,dx,fs,g,ex,ea,c,k,l,q⟩=>?_) ht;subst ex;obtain rfl:u=Value.ref a:=rx;exact qt I1 ea c k l (q s1 I1)
end
section
variable {X:Cx}{ac:List (Addr×Obj)}{σ:St}{H:Hp}{s:Shared}{A:Around}{E:Value->Shared->Prop}{Q:Value->Shared->Prop}{c:Value}{b:Bool}
inductive TyOf (K:Frag)(H:Hp):V->Value->Prop where
 |non:TyOf K H .non (.type "NoneType")
 |bl (x:Bool):TyOf K H (.bl x) (.type "bool")
 |int (i:Int):TyOf K H (.int i) (.type "int")
 |str (x:Str):TyOf K H (.str x) (.type "str")
 |flt (x:UInt64):TyOf K H (.flt x) (.type "float")
 |lst {a:Addr}{xs:List V}(e:H a=some (.lst xs)):TyOf K H (.ref a) (.type "list")
 |frz {a:Addr}{o:Obj}{xs:List V}(e:H a=some (.frz o (.lst xs))):TyOf K H (.ref a) (.type "list")
 |tup {a:Addr}{xs:List V}(e:H a=some (.tup xs)):TyOf K H (.ref a) (.type "tuple")
 |dK {a:Addr}{b9:List (iB×V)}{ob:Obj}(e:H a=some (.dK b9 ob)):TyOf K H (.ref a) (.type "dict")
 |dT {a:Addr}{b9:List (List iB×V)}(e:H a=some (.dT b9)):TyOf K H (.ref a) (.type "dict")
 |ins {a C dx:Addr}{fs:List (Str×V)}(e:H a=some (.ins C dx fs)) (cl:Cls K C) (ha:PySem.W.findIn K (.ref C) "__class__" = some (some (.builtin "object.__class__")))
   (hn:PySem.W.specialIn K (.builtin "object.__class__") "__get__" = some (some (.builtin "getset_descriptor.__get__"))) (CL:PySem.W.takesIn K (.builtin "object.__class__")=some true)
   (hm:PySem.W.mroIn K C (.type "object")=some true):TyOf K H (.ref a) (.ref C)
theorem dA (I:Inv X ac σ H s)(rx:aI x u)(ty:TyOf X.K H x t)(e:PySem.W.kitOne X.K t c=some b)(h:∀tk,Q (.bool b) { s with toks:=tk }):
  wpAny (model X.prog X.w) A (call (.builtin "isinstance") [u,c]) Q E s:=by
 cases ty with
 |non=>cases (show u=Value.none from rx);exact kia_one PySem.W.kitx_none I.kIn True.intro e (λz=>nomatch z) h
 |bl y=>cases (show u=Value.bool y from rx);exact kia_one PySem.W.kitx_bool I.kIn True.intro e (λz=>nomatch z) h
 |int i=>obtain⟨t,q⟩:=(show ∃t,u=Value.int i t from rx);cases q;exact kia_one PySem.W.kitx_int I.kIn True.intro e (λz=>nomatch z) h
 |str y=>obtain⟨t,q⟩:=(show ∃t,u=Value.str y t from rx);cases q;exact kia_one PySem.W.kitx_str I.kIn True.intro e (λz=>nomatch z) h
 |flt y=>obtain⟨t,q⟩:=(show ∃t,u=Value.float y t from rx);cases q;exact kia_one PySem.W.kitx_float I.kIn True.intro e (λz=>nomatch z) h
 |@lst a xs ea=>
  cases (show u=Value.ref a from rx)
  obtain⟨_,_,n,_,h1⟩:=(show bD X.prog X.w H s.heap a (.lst xs)from I.hok a _ ea);exact kia_one PySem.W.kitx_list I.kIn ⟨_,h1,rfl⟩ e (λz=>nomatch z) h
 |@frz a ob xs ea=>
  cases (show u=Value.ref a from rx)
  obtain⟨_,_,_,n,_,h1⟩:=(show bD X.prog X.w H s.heap a (.frz ob (.lst xs))from I.hok a _ ea);exact kia_one PySem.W.kitx_list I.kIn ⟨_,h1,rfl⟩ e (λz=>nomatch z) h
 |@tup a xs ea=>
  cases (show u=Value.ref a from rx)
  obtain⟨_,_,_,p⟩:=(show bD X.prog X.w H s.heap a (.tup xs)from I.hok a _ ea);obtain⟨o,h1,h2,_⟩:=p;exact kia_one PySem.W.kitx_tuple I.kIn ⟨o,h1,h2⟩ e (λz=>nomatch z) h
 |@dK a b9 ob ea=>
  cases (show u=Value.ref a from rx)
  obtain⟨_,_,_,vs,_,p⟩:=(show bD X.prog X.w H s.heap a (.dK b9 ob)from I.hok a _ ea);obtain⟨o,es,ep,h1,h2,_⟩:=p;exact kia_one PySem.W.kitx_dict I.kIn ⟨o,h1,h2.1⟩ e (λz=>nomatch z) h
 |@dT a b9 ea=>
  cases (show u=Value.ref a from rx)
  obtain⟨_,_,xs,_,o,es,ep,h1,h2,_⟩:=(show bD X.prog X.w H s.heap a (.dT b9)from I.hok a _ ea);exact kia_one PySem.W.kitx_dict I.kIn ⟨o,h1,h2.1⟩ e (λz=>nomatch z) h
 |@ins a C dx fs ea cl ha hn CL hm=>
  cases (show u=Value.ref a from rx)
  obtain⟨mA,O,_⟩:=rC I.hok ea;obtain⟨od,J,_⟩:=O.look;exact kia_one (PySem.W.kitx_own (cl.get _) cl.hd ha hn CL hm) I.kIn J e (λz=>nomatch z) h
end
structure cE (k:Nat)(A:Around):Prop where
 hd:A.handled=none
 dp:A.depth+3*k+5<recursionLimit
 un:A.units+16*k+200<cLine
theorem cE.mono (r:cE k A)(h:j<=k):cE j A:=⟨r.hd,by have:=r.dp;omega,by have:=r.un;omega⟩
theorem cE.deeper (r:cE (k+1) A)(env:Env):cE k (A.deeper env) :=
 ⟨r.hd,by have:=r.dp;show A.depth+1+3*k+5<_;omega,by have:=r.un;show A.units+3+16*k+200<_;omega⟩
theorem qu {A:Around}{C:Addr}{us:List Value}{kw:List (Str×Value)}:(A.under (.builtin "type.__call__" ⟨.ref C::us,kw⟩)).depth=A.depth+1:=by
 first|rfl|simp[Around.under,Code.weight,Code.isCreation,Code.isGuard,Code.isCaller,Code.frames,Code.isFrame,guardIds]
theorem qv {A:Around}{C:Addr}{us:List Value}{kw:List (Str×Value)}:(A.under (.builtin "type.__call__" ⟨.ref C::us,kw⟩)).units=A.units+1:=by
 first|rfl|simp[Around.under,Code.cUnits,Code.frames,Code.isFrame]
theorem cE.make (r:cE (k+1) A)(C:Addr)(us:List Value)(kw:List (Str×Value)):cE k (A.under (.builtin "type.__call__" ⟨.ref C::us,kw⟩)) :=
 ⟨r.hd,by have:=r.dp;rw[qu];omega,by have:=r.un;rw[qv];omega⟩
theorem cE.depth (r:cE k A):A.depth<recursionLimit:=by have:=r.dp;omega
def tq:TA:=λ_ H Q=>Q [] H
def km (ta:TE)(tr:TA):TA:=λσ H Q=>ta σ H λx H1=>tr σ H1 λxs H2=>Q (x::xs) H2
section
variable {X:Cx}{e:Expr}{es:List Expr}{te:TE}{t:TA}{pos:Pos}
theorem cT:PA X [] tq:=λ_ _ _ _ H Q I h=>Calls.spliced_nil ⟨[],H,I,.nil,h⟩
theorem bJ (ha:PE X e te)(hr:PA X es t)(hs:starEach (e::es) X.env=(false,eval e X.env)::starEach es X.env:=by rfl):PA X (e::es) (km te t):=by
 intro pos ac s σ H Q I h;rw[hs];show wpAny _ _ (spliced ((false,eval e X.env)::backTo pos (starEach es X.env))) _ _ s;refine Calls.spliced_cons (bY (ha ac s σ H _ I h) λu s1 ⟨x,H1,I1,r1,q1⟩=>?_);exact bY (hr pos ac s1 σ H1 _ I1 q1) λus s2 ⟨xs,H2,I2,r2,q2⟩=>⟨x::xs,H2,I2,.cons r1 r2,q2⟩
def G2 (t:TA):TE:=λσ H Q=>t σ H λxs H1=>xs.length<=sizeLine/\∀p,H1 p=none->Q (.ref p) (upd H1 p (.tup xs))
def G3 (t:TA):TE:=λσ H Q=>t σ H λxs H1=>xs.length<=sizeLine/\∀p,H1 p=none->Q (.ref p) (upd H1 p (.lst xs))
theorem Bb {x1}(h:PA X es t):PE X (.Tuple es x1 pos) (G2 t):=by
 intro ac s σ H Q I hq;refine wpAny_Tuple_spliced (bY (h pos ac s σ H _ I hq) λus s1 ⟨xs,H1,I1,r,z,q⟩=>⟨by rw[←r.length];exact z,?_⟩);have hf:H1 s1.heap.objs.size=none:=I1.hok.fresh (vT _);refine⟨.ref s1.heap.objs.size,upd H1 s1.heap.objs.size (.tup xs),I1.laid (t':=s1.toks) (λb u e=>vZ _ e) (vT _) ?_,rfl,q _ hf⟩;exact⟨z,us,r,⟨_,vY _ rfl,rfl,_,rfl⟩⟩
theorem Bc (h:PA X es t):PE X (.List es pos) (G3 t):=by
 intro ac s σ H Q I hq;refine wpAny_List_spliced (bY (h pos ac s σ H _ I hq) λus s1 ⟨xs,H1,I1,r,z,q⟩=>⟨by rw[←r.length];exact z,?_⟩);have hf:H1 s1.heap.objs.size=none:=I1.hok.fresh (vT _);refine⟨.ref s1.heap.objs.size,upd H1 s1.heap.objs.size (.lst xs),I1.laid (t':=s1.toks) (λb u e=>vZ _ e) (vT _) ?_,rfl,q _ hf⟩;exact⟨z,us,0,r,vY _ rfl⟩
end
abbrev Sp:=List V->Hp->VK->XK->Prop
abbrev xH:=List Env->Hp->Shared->XK->Value->Shared->Prop
structure Env0 (P:Program)(w:World)(K:Frag)(mg:Str->Option Value)(base:Heap)(A:Around)(outer:List Env)(s:Shared)(H:Hp):Prop where
 frames:A.frames=some outer
 mod:Mod K mg base
 bs:∀b o,base.get? b=some o->s.heap.get? b=some o/\H b=none
 bsz:base.objs.size<=s.heap.objs.size
 funs:s.heap.FunFrames base outer
 frf:∀b∈lC outer,H b=none
 hok:j4 P w H s.heap
 bare:AllBare s.gens
def CE (outer:List Env)(P:Program)(w:World)(H:Hp)(s:Shared)(Q:VK)(u:Value)(s':Shared):Prop :=
 ∃v H',s'.os=s.os/\AllBare s'.gens/\Un (lC outer) [] H H' s.heap s'.heap/\j4 P w H' s'.heap/\aI v u/\Q v H'
def CR (CX:xH)(outer:List Env)(P:Program)(w:World)(H:Hp)(s:Shared)(Q:VK)(E:XK)(r:Result)(s':Shared):Prop :=
 match r with
 |.ok (.ret u)=>CE outer P w H s Q u s'
 |.ok _=>False
 |.error e=>CX outer H s E e s'
structure fg (P:Program)(w:World)(K:Frag)(mg:Str->Option Value)(base:Heap)(CX:xH)(k:Nat)(f:Addr)(fd:FuncData)(ps:List Str)(sp:Sp):Prop where
 len:∀vs H Q E,sp vs H Q E->vs.length=ps.length
 run:∀(A:Around)(outer:List Env)(s:Shared)(H:Hp)(args:Args)(us:List Value)(vs:List V)(Q:VK)(E:XK),cE k A->Env0 P w K mg base A outer s H->BindsTo s fd args (ps.zip us)->aT vs us->sp vs H Q E ->
  codeAny (model P w) A (.call (.ref f) args) (CR CX outer P w H s Q E) s
theorem fg.imp {P:Program}{w:World}{K:Frag}{mg:Str->Option Value}{base:Heap}{CX:xH}{k:Nat}{f:Addr}{fd:FuncData}{ps:List Str}{sp IV:Sp}(F:fg P w K mg base CX k f fd ps sp)
  (h:∀vs H Q E,IV vs H Q E->sp vs H Q E):fg P w K mg base CX k f fd ps IV :=
 ⟨λvs H Q E q=>F.len vs H Q E (h _ _ _ _ q),λA outer s H args us vs Q E hr he hb hv hs=>F.run A outer s H args us vs Q E hr he hb hv (h _ _ _ _ hs)⟩
theorem Env0.make {P:Program}{w:World}{K:Frag}{mg:Str->Option Value}{base:Heap}{A:Around}{outer:List Env}{s:Shared}{H:Hp}(e:Env0 P w K mg base A outer s H)(C:Addr)(us:List Value)(kw:List (Str×Value)):
  Env0 P w K mg base (A.under (.builtin "type.__call__" ⟨.ref C::us,kw⟩)) outer s H:=⟨by first|exact e.frames|(simpa [Around.under,Code.envs,Code.isFrame,pushEnvs]using e.frames),e.mod,e.bs,e.bsz,e.funs,e.frf,e.hok,e.bare⟩
section
variable {X:Cx}{ac:List (Addr×Obj)}{σ:St}{H:Hp}{s s':Shared}
theorem Inv.env0 (I:Inv X ac σ H s):Env0 X.prog X.w X.K X.mg X.base X.A X.stack s H :=
 ⟨I.ok.frames,I.ok.mod,I.bs,vR I.ok.bsz I.sz,I.stack,I.stkFree,I.hok,I.bare⟩
theorem Inv.after (I:Inv X ac σ H s)(h:CE X.stack X.prog X.w H s Q u s'):EP X ac σ Q u s':=by
 obtain⟨v,H',os,bare,un,hok,r,q⟩:=h;obtain⟨hh,g,d,t,Hl⟩:=s';obtain rfl:Hl=s.os:=os;exact⟨v,H',I.call (h':=hh) (g':=g) (d':=d) (t':=t) (ch:=[]) un hok bare (λb z=>absurd z (by simp)),r,q⟩
end
def Aa (sp:Sp)(u0:List V)(E:XK)(t:TA):TE:=λσ H Q=>t σ H λvs H1=>sp (vs++u0) H1 Q E
def Iy (C:Addr)(m:Str)(sp:Sp)(u0:List V)(E:XK)(ta:TE)(t:TA):TE:=λσ H Q=>ta σ H λx H1=>∃a dx fs,x=.ref a/\H1 a=some (.ins C dx fs)/\fs.lookup m=none /\
 t σ H1 λvs H2=>sp (x::(vs++u0)) H2 Q E
def Iz (C:Addr)(sp:Sp)(u0:List V)(E:XK)(t:TA):TE:=λσ H Q=>t σ H λvs H1=>∀x dx,H1 x=none->H1 dx=none->dx≠x ->
 sp (.ref x::(vs++u0)) (upd (upd H1 dx (.own x)) x (.ins C dx [])) (λv H2=>v=.non/\Q (.ref x) H2) E
def eB (K:Frag)(fd:FuncData)(ps:List Str)(ds:List Value):Prop :=
 ∀(s:Shared)(us:List Value),K.In s.heap->(us++ds).length=ps.length->BindsTo s fd ⟨us,[]⟩ (ps.zip (us++ds))
theorem eB.all {K:Frag}{fd:FuncData}{ps:List Str}(h:∀us:List Value,us.length=ps.length->bindArgs fd ⟨us,[]⟩=pure (ps.zip us)):eB K fd ps []:=λs us _ hl=>by
 rw[uQ]at hl ⊢;exact .of_eq (h us hl)
def qw (CX:xH)(X:Cx)(E:XK):Prop:=∀(ac:List (Addr×Obj))(σ:St)(H:Hp)(s:Shared)(e:Value)(s':Shared),Inv X ac σ H s->CX X.stack H s E e s'->X.xe e s'
section
variable {X:Cx}{CX:xH}{k:Nat}{f C:Addr}{fd:FuncData}{ps:List Str}{sp:Sp}{u0:List V}{ds:List Value}{E:XK}{x m:Str}{p pos gX:Pos}{e o:Expr}{es:List Expr}{ta:TE}{t:TA}
theorem Bd {ac:List (Addr×Obj)}{σ:St}{H:Hp}{s:Shared}{Q:VK}{us:List Value}{vs:List V}(F:fg X.prog X.w X.K X.mg X.base CX k f fd ps sp)(hr:cE k X.A)(hb:eB X.K fd ps ds)(hd:aT u0 ds)(hx:qw CX X E)
  (I:Inv X ac σ H s) (r:aT vs us) (h:sp (vs++u0) H Q E):wq X (call (.ref f) us) (EP X ac σ Q) X.xe s:=by
 have r2:aT (vs++u0) (us++ds):=r.append hd;have hl:(us++ds).length=ps.length:=by rw[←r2.length];exact F.len _ _ _ _ h
 refine wpAny_call (codeAny_mono (F.run X.A X.stack s H ⟨us,[]⟩ (us++ds) (vs++u0) Q E hr I.env0 (hb s us I.kIn hl) r2 h) λr s' hq=>?_);cases r with
 |error e=>exact hx ac σ H s e s' I hq
 |ok fl=>
  cases fl with
  |ret u=>exact I.after hq
  |next=>exact False.elim hq
  |brk=>exact False.elim hq
  |cont=>exact False.elim hq
theorem rE (F:fg X.prog X.w X.K X.mg X.base CX k f fd ps sp)(hr:cE k X.A)(hg:Gl X x)(hm:X.mg x=some (.ref f))(hk:PySem.W.keepIn X.K (.ref f)=true)(hb:eB X.K fd ps ds)(hd:aT u0 ds)(hx:qw CX X E)
  (ha:PA X (e::es) t) (ly:(x == ("__debug__" : Str))=false:=by decide) (he:starEach (e::es) X.env=(false,eval e X.env)::starEach es X.env:=by rfl) (hpl:(backTo pos (starEach es X.env)).any (·.1)=false:=by rfl):
  PE X (.Call (.Name x p) (e::es) [] pos) (Aa sp u0 E t):=by
 intro ac s σ H Q I h;refine wpAny_Call_Name_kw (iF I hg hm ?_ ly);refine PySem.W.callWith_K (h₀:=X.base) I.ok.mod.kin hk (bY (ha pos ac s σ H _ I h) λus s1 ⟨vs,H1,I1,r,q⟩=>⟨I1.kIn,?_⟩) he hpl;exact Bd F hr hb hd hx I1 r q
end
structure FnScope (N P:List Str)(sc:Scope):Prop where
 kind:sc.kind=.function
 co:sc.isCoroutine=false
 gen:sc.isGenerator=false
 nd:N.Nodup
 pre:N.take P.length=P
 par:∀x∈P,sc.names.lookup x=some .local∨sc.names.lookup x=some .cell
 nofree:∀y∈sc.names,y.2≠.free
theorem lX {kindOf:Str->Option NameKind}{x:Str}:∀ {binds:List (Str×Value)}{m:Str->Option Value},(∀v,(x,v)∉binds)->bindL kindOf binds m x=m x
 |[],_,_=>rfl
 | (n,v)::r,m,h=>by
  unfold bindL;rw[lX λw hw=>h w (mZ _ hw)];split
  ·have:x≠n:=by rintro rfl;exact h v mX
   simp[this]
  ·rfl
theorem lY {kindOf:Str->Option NameKind}{x:Str}:∀ {binds:List (Str×Value)}{m:Str->Option Value},(∀v,(x,v)∉binds)->bindC kindOf binds m x=m x
 |[],_,_=>rfl
 | (n,v)::r,m,h=>by
  unfold bindC;rw[lY λw hw=>h w (mZ _ hw)];split
  ·rfl
  ·have:x≠n:=by rintro rfl;exact h v mX
   simp[this]
theorem lZ {kindOf:Str->Option NameKind}{x:Str}{v:Value}:∀ {P:List Str}{vs:List Value}{i:Nat}{m:Str->Option Value},P.Nodup->P[i]? = some x->vs[i]? = some v->kindOf x=some .local ->
  bindL kindOf (P.zip vs) m x=some v
 |[],_,_,_,_,h,_,_=>by simp at h
 |_::_,[],_,_,_,_,h,_=>by simp at h
 |p::P,w::vs,0,m,nd,h1,h2,hk=>by
  simp at h1 h2;subst h1;subst h2;show bindL kindOf ((p,w)::P.zip vs) m p=_;unfold bindL;rw[lX λv hv=>(List.nodup_cons.mp nd).1 (List.of_mem_zip hv).1,if_pos hk];simp
 |p::P,w::vs,i+1,m,nd,h1,h2,hk=>by
  show bindL kindOf ((p,w)::P.zip vs) m x=_;unfold bindL;exact lZ (i:=i) (List.nodup_cons.mp nd).2 (by simpa using h1) (by simpa using h2) hk
theorem ma {kindOf:Str->Option NameKind}{x:Str}{v:Value}:∀ {P:List Str}{vs:List Value}{i:Nat}{m:Str->Option Value},P.Nodup->P[i]? = some x->vs[i]? = some v->kindOf x≠some .local ->
  bindC kindOf (P.zip vs) m x=some v
 |[],_,_,_,_,h,_,_=>by simp at h
 |_::_,[],_,_,_,_,h,_=>by simp at h
 |p::P,w::vs,0,m,nd,h1,h2,hk=>by
  simp at h1 h2;subst h1;subst h2;show bindC kindOf ((p,w)::P.zip vs) m p=_;unfold bindC;rw[lY λv hv=>(List.nodup_cons.mp nd).1 (List.of_mem_zip hv).1,if_neg hk];simp
 |p::P,w::vs,i+1,m,nd,h1,h2,hk=>by
  show bindC kindOf ((p,w)::P.zip vs) m x=_;unfold bindC;exact ma (i:=i) (List.nodup_cons.mp nd).2 (by simpa using h1) (by simpa using h2) hk
noncomputable def cZ (N:List Str)(vs:List V):St:=vs.map some++List.replicate (N.length - vs.length) none
noncomputable def eC (CX:xH)(P:Program)(w:World)(K:Frag)(mg:Str->Option Value)(base:Heap)(N:List Str)(qual:Str)(scope:Scope)(f:Addr)(cd:Value)(A:Around)(outer:List Env)(s:Shared)(H:Hp)(E:XK):Cx where
 prog:=P
 w:=w
 K:=K
 mg:=mg
 base:=base
 A:=A.deeper (envOfC qual scope s.heap.objs.size f cd)
 N:=N
 s₀:=s
 H₀:=H
 env:=envOfC qual scope s.heap.objs.size f cd
 outer:=outer
 stack:=envOfC qual scope s.heap.objs.size f cd::outer
 ex:=[]
 calm:=true
 fn:=λ_=>true
 pn:=[]
 xe:=λe s'=>wpAny (model P w) (A.deeper (envOfC qual scope s.heap.objs.size f cd)) (leaving (envOfC qual scope s.heap.objs.size f cd) e) (λ_ E8=>CX outer H s E e E8) (λe' E8=>CX outer H s E e' E8) s'
theorem ou {sc:Scope}{n:Nat}{x:Str}(h:sc.names.lookup x=some .cell):∃c,(cellsFrom n sc.names []).lookup x=some c:=by
 have q:=PySem.W.cellsFrom_some sc.names n [] (.inl h);exact Option.isSome_iff_exists.mp q
theorem tt {CX:xH}{P:Program}{w:World}{K:Frag}{mg:Str->Option Value}{base:Heap}{N ps:List Str}{qual:Str}{scope:Scope}{f:Addr}{cd:Value}{A:Around}{outer:List Env}{s s1:Shared}{H:Hp}{E:XK}{us:List Value}{vs:List V}
  (S:FnScope N ps scope) (hd:A.handled=none) (e0:Env0 P w K mg base A outer s H) (hl:vs.length=ps.length) (r:aT vs us)
  (x:InCallC s s.heap.objs.size (bindL (envOfC qual scope s.heap.objs.size f cd).kindOf (ps.zip us) λ_=>none) (cellsFrom (s.heap.objs.size+1) scope.names []) (bindC (envOfC qual scope s.heap.objs.size f cd).kindOf (ps.zip us) λ_=>none) s1):
  Inv (eC CX P w K mg base N qual scope f cd A outer s H E) [] (cZ N vs) H s1:=by
 have hpl:ps.length<=N.length:=by have:=congrArg List.length S.pre;rw[List.length_take]at this;omega
 obtain⟨h1,tk,rfl,hk⟩:=x.done;have E9:∀b:Addr,b∉(eC CX P w K mg base N qual scope f cd A outer s H E).ex:=λb z=>absurd (show b∈([]:List Addr)from z) (by simp);refine⟨⟨e0.mod,S.kind,rfl,rfl,vT _,λy z c h1 h2=>?_,λy hy=>?_,λy c _ h=>?_,λ_=>hd,Around.frames_deeper e0.frames,.inr ⟨rfl,rfl⟩,λb z=>absurd z (E9 b),e0.bs,e0.bsz,λb _ _=>E9 b,λb z=>absurd z (E9 b),e0.funs,e0.frf⟩,
  rfl,e0.bare,Un.kept hk,⟨_,x.toInCall.ns,λi y v h1 h2 h3=>?_⟩,λy c h=>⟨_,x.cell y c h⟩,e0.hok.fresh (vT _),λy c h=>?_,λp hp=>absurd (show p∈([]:List (Addr×Obj))from hp) (by simp),e0.hok.kept hk,?_⟩
 ·exact name_of_addr x.apart (PySem.mem_of_lookup h1) (PySem.mem_of_lookup h2)
 ·have hy:scope.names.lookup y=some .cell∨scope.names.lookup y=some .free:=hy;rcases hy with hy|hy
  ·exact ou hy
  ·exact absurd rfl (S.nofree _ (PySem.mem_of_lookup hy))
 ·exact Nat.le_of_lt (x.above y c (PySem.mem_of_lookup h))
 ·have hi:i<vs.length:=by
   unfold cZ at h2;by_cases hi:i<vs.length
   ·exact hi
   ·rw[List.getElem?_append_right (by simpa using hi)]at h2;rw[List.getElem?_replicate]at h2;split at h2<;>cases h2
  have ha:vs[i]? = some v:=by
   unfold cZ at h2;rw[List.getElem?_append_left (by simpa using hi),vA]at h2;cases e:vs[i]? with
   |none=>rw[e]at h2;cases h2
   |some a=>rw[e]at h2;cases h2;rfl
  obtain⟨u,hu,rv⟩:=r.get ha;have hp:ps[i]? = some y:=by
   rw[←S.pre,List.getElem?_take_of_lt (by omega)];exact h1
  have IW:ps.Nodup:=by rw[←S.pre];exact S.nd.sublist (List.take_sublist _ _)
  refine⟨u,rv,?_⟩;rcases S.par y (List.mem_of_getElem? hp)with k|k
  ·exact .inl ⟨k,lZ IW hp hu k⟩
  ·obtain⟨c,e⟩:=ou (n:=s.heap.objs.size+1) k;refine .inr ⟨.inl k,c,e,?_⟩;have q:=x.cell y c e;rw[ma IW hp hu (by show scope.names.lookup y≠_;rw[k];decide)]at q;exact q
 ·exact e0.hok.fresh (Nat.le_of_lt (x.above y c (PySem.mem_of_lookup h)))
 ·unfold cZ;show _=N.length;rw[uZ,vH,List.length_replicate];omega
theorem rF {CX:xH}{P:Program}{w:World}{K:Frag}{mg:Str->Option Value}{base:Heap}{k:Nat}{f:Addr}{name qual:Str}{params:Arguments}{body:List Stmt}{scope:Scope}{dV kV doc pm bM ct oc:Value}{an od:Option Addr}
  {jz:Array (Option Value)}{N ps:List Str}{sp:Sp}(lk:K.lookup f=some ⟨oc,od,.func (fnOf name qual params body scope dV kV doc pm an bM ct),jz⟩) (gt:PySem.W.codeIn K bM qual=true) (S:FnScope N ps scope)
  (len:∀vs H Q E,sp vs H Q E->vs.length=ps.length)
  (xr:∀(A:Around)(outer:List Env)(s:Shared)(H:Hp)(vs:List V)(Q:VK)(E:XK),cE k (A.deeper (envOfC qual scope s.heap.objs.size f bM))->sp vs H Q E ->
   ∃t,ki (eC CX P w K mg base N qual scope f bM A outer s H E) body t/\t { nx:=λ_ H'=>Q .non H',rt:=Q } (cZ N vs) H):
  fg P w K mg base CX (k+1) f (fnOf name qual params body scope dV kV doc pm an bM ct) ps sp:=by
 refine⟨len,λA outer s H args us vs Q E hr e0 hb r A8=>?_⟩;have hl:=len _ _ _ _ A8;have KX:K.In s.heap:=e0.mod.kin.keeps λb o e=>(e0.bs b o e).1;have KP:s.heap.NoLimit:=e0.mod.nolimit.keeps λb o e=>(e0.bs b o e).1;have EA:∀y∈ps.zip us,scope.names.lookup y.1=some .local∨(scope.names.lookup y.1=some .cell/\((cellsFrom (s.heap.objs.size+1) scope.names []).lookup y.1).isSome=true):=λ⟨n,v⟩ hy=>by
  rcases S.par n (List.of_mem_zip hy).1 with q|q
  ·exact .inl q
  ·exact .inr ⟨q,PySem.W.cellsFrom_some _ _ _ (.inl q)⟩
 refine codeAny_call_function hr.depth (KX _ _ lk) rfl S.co S.gen rfl (PySem.W.codeRec_of KX gt) (hb _ _ _ _ ?_);refine wpAny_newFunctionEnv_cells S.kind EA λenv he s1 x=>?_;subst he;refine⟨KP.keeps x.toInCall.keep,codeAny_func ?_⟩;obtain⟨t,ht,hq⟩:=xr A outer s H vs Q E (hr.deeper _) A8;have I:Inv (eC CX P w K mg base N qual scope f bM A outer s H E) [] (cZ N vs) H s1:=tt S hr.hd e0 hl r x;refine wpAny_mono (ht [] s1 (cZ N vs) H _ I hq) (λfl s' hs=>?_) λe s' hs=>hs;have g6:∀ {σ':St}{H':Hp}{v:V}{u:Value},Inv (eC CX P w K mg base N qual scope f bM A outer s H E) [] σ' H' s'->aI v u->Q v H'->CE outer P w H s Q u s' :=
  λ{σ' H' v u} J rv q=>⟨v,H',J.os,J.bare,J.base,J.hok,rv,q⟩
 cases fl with
 |ret u=>
  obtain⟨v,σ',H',J,rv,q⟩:=hs;exact g6 J rv q
 |next=>
  obtain⟨σ',H',J,q⟩:=hs;exact g6 (v:=V.non) (u:=Value.none) J rfl q
 |brk=>
  obtain⟨_,_,_,q⟩:=hs;exact False.elim q
 |cont=>
  obtain⟨_,_,_,q⟩:=hs;exact False.elim q
section
variable {X:Cx}{x:Str}{p pos:Pos}{e:Expr}{es:List Expr}{t:TA}{id T:String}{r:List V->Hp->VK->Prop}
def I0 (r:List V->Hp->VK->Prop)(t:TA):TE:=λσ H Q=>t σ H λvs H1=>r vs H1 Q
theorem fK (hc:bN X (.builtin id) r)(hg:Gl X x)(hm:X.mg x=none)(hv:bootBuiltins x=some (.builtin id))(ha:PA X (e::es) t)(hn:x ≠ "__name__":=by decide)(ly:(x == ("__debug__" : Str))=false:=by decide)
  (he:starEach (e::es) X.env=(false,eval e X.env)::starEach es X.env:=by rfl) (hpl:(backTo pos (starEach es X.env)).any (·.1)=false:=by rfl):PE X (.Call (.Name x p) (e::es) [] pos) (I0 r t):=by
 intro ac s σ H Q I h;refine wpAny_Call_Name_kw (g9 I hg hm hv ?_ hn ly);exact PyProof.Rows.callWith_builtin1 (bY (ha pos ac s σ H _ I h) λus s1 ⟨vs,H1,I1,r1,q1⟩=>hc ac s1 σ H1 vs us Q I1 r1 q1) he hpl
theorem jk (hc:bN X (.type T) r)(hg:Gl X x)(hm:X.mg x=none)(hv:bootBuiltins x=some (.type T))(ha:PA X (e::es) t)(hn:x ≠ "__name__":=by decide)(ly:(x == ("__debug__" : Str))=false:=by decide)
  (he:starEach (e::es) X.env=(false,eval e X.env)::starEach es X.env:=by rfl) (hpl:(backTo pos (starEach es X.env)).any (·.1)=false:=by rfl):PE X (.Call (.Name x p) (e::es) [] pos) (I0 r t):=by
 intro ac s σ H Q I h;refine wpAny_Call_Name_kw (g9 I hg hm hv ?_ hn ly);exact PyProof.Rows.callWith_type1 (bY (ha pos ac s σ H _ I h) λus s1 ⟨vs,H1,I1,r1,q1⟩=>hc ac s1 σ H1 vs us Q I1 r1 q1) he hpl
end
end L2
namespace HT
open PySem PyProof.Rows
section
open PySem.SeqAt
open PySem.AutoSeq1 (wpAny_loadPart')
open PySem.MeetsSeq PySem.MeetsSeq2 PySem.MeetsSeq3
end
section
variable {prog:Program}{w:World}{A:Around}{E:Value->Shared->Prop}{s:Shared}
theorem yf (ht:IsTup s.heap t vs.toArray)(hb:IsTup s.heap b ws.toArray)(hv:vs≠[])
  (h1:ws=[]->Q (.ref t) s) (h2:ws≠[]->Q (.ref s.heap.objs.size) { s with heap:=s.heap.push { cls:=.type "tuple",data:=.seq (vs++ws).toArray } })
  (hsz:vs.length+ws.length<=sizeLine):wpAny (model prog w) A (binaryOp .Add (.ref t) (.ref b)) Q E s:=by
 obtain⟨⟨cls,dd,data,sl⟩,ho,hc,n,hd⟩:=id ht;obtain⟨⟨KQ,IX,data2,FU⟩,CM,EB,n2,IY⟩:=id hb;simp only at hc hd EB IY;subst hc hd EB IY;have e:vs.toArray++ws.toArray=(vs++ws).toArray:=by simp
 by_cases hw:ws=[]
 ·exact concat_meets ⟨_,ho,rfl⟩ ⟨_,CM,rfl⟩ noFill_tuple_add seq_tuple_add PySem.F.slot_tuple_add PySem.F.entry_tuple_add (PySem.F.args_tuple_add_2 _ _)
   (tuple_addW1 t b vs.toArray ws.toArray n n2 dd IX sl FU (by simpa using hv) (by simp[hw])) ⟨ho,CM,h1 hw⟩
 ·refine concat_meets ⟨_,ho,rfl⟩ ⟨_,CM,rfl⟩ noFill_tuple_add seq_tuple_add PySem.F.slot_tuple_add PySem.F.entry_tuple_add (PySem.F.args_tuple_add_2 _ _)
   (tuple_addW2 t b vs.toArray ws.toArray n n2 dd IX sl FU (by simpa using hv) (by simpa using hw) (by rw[vG,vG];exact hsz)) ⟨ho,CM,?_⟩
  rw[e];exact h2 hw
noncomputable def c7 (n d:Nat):Option Int->Nat
 |none=>d
 |some v=>if v<0 then (v+(n:Int)).toNat else min v.toNat n
theorem oy (n d:Nat):c7 n d none=d:=rfl
theorem rG (n d k:Nat):c7 n d (some (k:Int))=min k n:=by
 show(if(k:Int)<0 then ((k:Int)+(n:Int)).toNat else min (k:Int).toNat n)=min k n;rw[if_neg (by omega),Int.toNat_natCast]
theorem Be (n d:Nat)(hd:d<=n)(o:Option Int):c7 n d o<=n:=by
 cases o with
 |none=>exact hd
 |some v=>
  show(if v<0 then (v+(n:Int)).toNat else min v.toNat n)<=n;by_cases hv:v<0
  ·rw[if_pos hv];omega
  ·rw[if_neg hv];exact Nat.min_le_right _ _
theorem rH (v:Int)(n d:Nat):(if v<0 then max (v+(n:Int)) 0 else min v (n:Int))=((c7 n d (some v):Nat):Int):=by
 show(if v<0 then max (v+(n:Int)) 0 else min v (n:Int))=(((if v<0 then (v+(n:Int)).toNat else min v.toNat n):Nat):Int);by_cases hv:v<0
 ·simp only[if_pos hv];omega
 ·simp only[if_neg hv];omega
theorem qx (lo hi:Option Int)(n:Nat):Builtin.Slice.sliceAdjust lo hi 1 (n:Int)=(((c7 n 0 lo:Nat):Int),((c7 n n hi:Nat):Int)):=by
 have h1:¬((1:Int)<0):=by omega
 unfold Builtin.Slice.sliceAdjust;simp only[h1,if_false];refine Prod.ext ?_ ?_
 ·cases lo with
  |none=>rfl
  |some v=>exact rH v n 0
 ·cases hi with
  |none=>rfl
  |some v=>exact rH v n n
theorem qy (i j:Nat):Builtin.Slice.slicePlaces (i:Int) (j:Int) 1=j - i:=by
 unfold Builtin.Slice.slicePlaces;have h1:(1:Int) > 0:=by omega
 simp only[h1,if_true,Int.ediv_one];split<;>omega
theorem kn (p:IsPart v o)(h:Q o s):wpAny (model prog w) A (Builtin.Slice.slicePartIndex v) Q E s:=by
 cases p with
 |none=>exact slicePart_none h
 |int i t=>exact slicePart_int h
theorem fM {sl:Addr}{vl vu:Value}{lo hi:Option Int}{n:Nat}{Q:Int×Int×Nat->Shared->Prop}(hs:s.heap.IsSliceOf sl vl vu .none)(pl:IsPart vl lo)(pu:IsPart vu hi)
  (h:Q (((c7 n 0 lo:Nat):Int),1,c7 n n hi - c7 n 0 lo) s):wpAny (model prog w) A (Builtin.Slice.sliceApplied (.ref sl) (pure (n:Int))) Q E s:=by
 obtain⟨os,z5,FV,Ch⟩:=id hs;unfold Builtin.Slice.sliceApplied Builtin.Slice.sliceFields;refine wX (wX (wpAny_field z5 Ch (x:=vl) rfl (wX (wpAny_field z5 Ch (x:=vu) rfl (wX (wpAny_field z5 Ch (x:=.none) rfl (wY ?_)))))));refine wX (slicePart_none ?_);show wpAny _ _ (if((1:Int) == 0)=true then _ else _) _ _ s;rw[if_neg (by decide)];refine wX (kn pl (wX (kn pu (wX (wY ?_)))));show wpAny _ _ (match Builtin.Slice.sliceAdjust lo hi 1 (n:Int) with|(lo,hi)=>pure (lo,(1:Int),Builtin.Slice.slicePlaces lo hi 1)) _ _ s;rw[qx lo hi n];show wpAny _ _ (pure (((c7 n 0 lo:Nat):Int),(1:Int),Builtin.Slice.slicePlaces ((c7 n 0 lo:Nat):Int) ((c7 n n hi:Nat):Int) 1)) _ _ s;rw[qy];exact wY h
theorem uI (xs:Array Value)(i k:Nat):((List.range k).filterMap λ(m:Nat)=>xs[((i:Int)+(m:Int)*1).toNat]?).toArray=((xs.toList.drop i).take k).toArray:=by
 have e:(λ(m:Nat)=>xs[((i:Int)+(m:Int)*1).toNat]?)=λm=>xs[i+m]?:=by
  funext m;have:((i:Int)+(m:Int)*1).toNat=i+m:=by omega
  rw[this]
 rw[e];have:=pick_run xs i k;rw[List.filterMap_map]at this;have e2:((λx=>xs[x]?) ∘ λx=>i+x)=λm=>xs[i+m]?:=rfl;rw[e2]at this;rw[this]
theorem iK {t sl:Addr}{am:Array Value}{vl vu:Value}{lo hi:Option Int}{Q:Value->Shared->Prop}(ht:IsTup s.heap t am)(hs:s.heap.IsSliceOf sl vl vu .none)(pl:IsPart vl lo)(pu:IsPart vu hi)
  (hw:¬(c7 am.size 0 lo=0/\c7 am.size am.size hi=am.size))
  (h:Q (.ref s.heap.objs.size) { s with heap:=s.heap.push { cls:=.type "tuple",data:=.seq ((am.toList.drop (c7 am.size 0 lo)).take (c7 am.size am.size hi - c7 am.size 0 lo)).toArray } })
  (hsz:am.size<=sizeLine):wpAny (model prog w) A (getItem (.ref t) (.ref sl)) Q E s:=by
 have sR:sizeOk (.seq ((am.toList.drop (c7 am.size 0 lo)).take (c7 am.size am.size hi - c7 am.size 0 lo)).toArray):=by
  show((am.toList.drop (c7 am.size 0 lo)).take (c7 am.size am.size hi - c7 am.size 0 lo)).toArray.size<=sizeLine
  rw[vG,List.length_take,List.length_drop,vF]
  omega
 have hj:c7 am.size am.size hi<=am.size:=Be _ _ (vT _) hi
 obtain⟨os,z5,FV,Ch⟩:=id hs
 have KR:s.TypeIs (.ref sl) "slice":=⟨os,z5,FV⟩
 unfold getItem
 try with_reducible refine wpAny_holding ?_
 first|refine wX (wY ?_)|skip
 refine wX (wpAny_sequenceKey ht.typeIs (by decide) ?_)
 refine wX (wpAny_callSpecial?_slot (name:=Str.ofString "__getitem__") ht.typeIs PyProof.Rows.slot_tuple_getitem
  (wpAny_call_entry PyProof.Rows.slot_tuple_getitem ht.typeIs entry_tuple_getitem ?_ (args_tuple_getitem _ _)))
 show wpAny _ _ (Builtin.Tuple.tupleItemsOf (.ref t)>>=_) _ _ s
 refine wX (tupleItemsOf_ ht ?_)
 refine wX (wpAny_typeOf KR ?_)
 rw[if_pos (by decide)]
 refine wX (fM hs pl pu ?_)
 have CN:¬((((c7 am.size 0 lo:Nat):Int) == 0 && (1:Int) == 1 && (c7 am.size am.size hi - c7 am.size 0 lo) == am.size)=true):=by
  intro q
  rw[vC,vC]at q
  have q1:((c7 am.size 0 lo:Nat):Int)=0:=eq_of_beq q.1.1
  have q2:c7 am.size am.size hi - c7 am.size 0 lo=am.size:=eq_of_beq q.2
  exact hw ⟨by omega,by omega⟩
 show wpAny _ _ (if(((c7 am.size 0 lo:Nat):Int) == 0 && (1:Int) == 1 && (c7 am.size am.size hi - c7 am.size 0 lo) == am.size)=true then _ else _) _ _ s
 rw[if_neg CN,uI]
 first
  |exact wX (m:=Builtin.Tuple.tupleExact _) (wpAny_newObj_type (wY ⟨_,rfl,wY h⟩) sR)
  |exact wX (m:=Builtin.Tuple.tupleExact _) (wpAny_newObj_type (wX (wY (wY ⟨_,rfl,wY h⟩))) sR)
  |exact wX (wX (m:=Builtin.Tuple.tupleExact _) (wpAny_newObj_type (wY (wY ⟨_,rfl,wY h⟩)) sR))
  |exact wX (wX (m:=Builtin.Tuple.tupleExact _) (wpAny_newObj_type (wY ⟨_,rfl,wY h⟩) sR))
end
end HT
namespace L2
open PySem PySem.Spec PyProof.Rows
abbrev TO:=St->Hp->(Option Int->Hp->Prop)->Prop
def PO (X:Cx)(e:Option Expr)(t:TO):Prop :=
 ∀(ac:List (Addr×Obj))(s:Shared)(σ:St)(H:Hp)(Q:Option Int->Hp->Prop),Inv X ac σ H s->t σ H Q ->
  wq X (evalPart e X.env) (λu s'=>∃o H',Inv X ac σ H' s'/\IsPart u o/\Q o H') X.xe s
def yg:TO:=λ_ H Q=>Q none H
def D4 (t:TE):TO:=λσ H Q=>t σ H λx H1=>∃i,x=.int i/\Q (some i) H1
section
variable {X:Cx}{e:Expr}{te:TE}{lo hi:Option Expr}{tl th:TO}{pos p2:Pos}
theorem yh:PO X none yg:=by
 intro ac s σ H Q I h;rw[evalPart_none];exact wY ⟨none,H,I,.none,h⟩
theorem yi (h:PE X e te):PO X (some e) (D4 te):=by
 intro ac s σ H Q I hw;rw[evalPart_some];refine bY (h ac s σ H _ I hw) λu s1 ⟨x,H1,I1,r1,q1⟩=>?_;obtain⟨i,rfl,q⟩:=q1;obtain⟨t,rfl⟩:=r1;exact⟨some i,H1,I1,.int i t,q⟩
def uy (X:Cx)(r:V->Option Int->Option Int->Hp->VK->Prop):Prop :=
 ∀(ac:List (Addr×Obj))(s:Shared)(σ:St)(H:Hp)(x:V)(v vl vu:Value)(lo hi:Option Int)(sl:Addr)(Q:VK),Inv X ac σ H s->aI x v->s.heap.IsSliceOf sl vl vu .none->IsPart vl lo->IsPart vu hi->r x lo hi H Q ->
  ∃T id,typeLookup (.type T) "__getitem__" = pure (some (.builtin id))/\s.TypeIs v T/\wq X (getItem v (.ref sl)) (EP X ac σ Q) X.xe s
theorem uy.or (h:uy X r)(h':uy X r'):uy X (λx lo hi H Q=>r x lo hi H Q∨r' x lo hi H Q):=by
 intro ac s σ H x v vl vu lo hi sl Q I rx hs pl pu q;rcases q with q|q
 ·exact h ac s σ H x v vl vu lo hi sl Q I rx hs pl pu q
 ·exact h' ac s σ H x v vl vu lo hi sl Q I rx hs pl pu q
def Kh (r:V->Option Int->Option Int->Hp->VK->Prop)(te:TE)(tl th:TO):TE:=λσ H Q=>te σ H λx H1=>tl σ H1 λl H2=>th σ H2 λu H3=>r x l u H3 Q
theorem uJ (hr:uy X r)(he:PE X e te)(hl:PO X lo tl)(hu:PO X hi th):PE X (.Subscript e (.Slice lo hi none p2) pos) (Kh r te tl th):=by
 intro ac s σ H Q I h;refine Subscript_ (bY (he ac s σ H _ I h) λv s1 ⟨x,H1,I1,r1,q1⟩=>?_);refine wpAny_Slice (bY (hl ac s1 σ H1 _ I1 q1) λvl s2 ⟨l,H2,I2,pl,q2⟩=>bY (hu ac s2 σ H2 _ I2 q2) λvu s3 ⟨u,H3,I3,pu,q3⟩=>?_);rw[evalPart_none];refine wY ?_;have I4:Inv X ac σ H3 { s3 with heap:=s3.heap.push { cls:=.type "slice",data:=.fields #[vl,vu,.none] } }:=I3.kept (t':=s3.toks) λb ob q=>vZ _ q;obtain⟨T,id,hT,ht,hg⟩:=hr ac { s3 with heap:=s3.heap.push { cls:=.type "slice",data:=.fields #[vl,vu,.none] } } σ H3 x v vl vu l u s3.heap.objs.size Q I4 r1 (Heap.IsSliceOf.new ..) pl pu q3;show wq X (subscriptTail e (.Slice lo hi none p2) v (.ref s3.heap.objs.size)) (EP X ac σ Q) X.xe { s3 with heap:=s3.heap.push { cls:=.type "slice",data:=.fields #[vl,vu,.none] } };exact tail_any (ops:=[.ref s3.heap.objs.size,v]) ht hT hg (by with_unfolding_all rfl)
def lG (xs:List V)(lo hi:Option Int):List V:=(xs.drop (HT.c7 xs.length 0 lo)).take (HT.c7 xs.length xs.length hi - HT.c7 xs.length 0 lo)
theorem j5 (xs:List V)(lo hi:Option Int):(lG xs lo hi).length<=xs.length:=by
 unfold lG;rw[List.length_take,List.length_drop];omega
def G4 (K:Frag):V->Option Int->Option Int->Hp->VK->Prop:=λx lo hi H Q=>∃a xs,x=.ref a/\gc K H a xs /\
 ¬(HT.c7 xs.length 0 lo=0/\HT.c7 xs.length xs.length hi=xs.length)/\∀p,H p=none->Q (.ref p) (upd H p (.tup (lG xs lo hi)))
theorem Bf:uy X (G4 X.K):=by
 intro ac s σ H x v vl vu lo hi sl Q I rx hs pl pu h;obtain⟨a,xs,rfl,hx,hw,q⟩:=h;cases rx
 obtain⟨its,r,ht,hz⟩:=I.tuple hx;have bT:its.toArray.size=xs.length:=by rw[vG];exact r.length.symm
 refine⟨"tuple",_,PyProof.Rows.slot_tuple_getitem.lookup,ht.typeIs,?_⟩;refine HT.iK ht hs pl pu (by rw[bT];exact hw) ?_ (by rw[bT];exact hz);rw[bT];refine⟨.ref s.heap.objs.size,_,I.laid (t':=s.toks) (o:=.tup (lG xs lo hi)) (λb ob q=>vZ _ q) (vT _) ?_,rfl,q _ (I.hok.fresh (vT _))⟩;exact⟨vR (j5 xs lo hi) hz,_,(r.drop (HT.c7 xs.length 0 lo)).take (HT.c7 xs.length xs.length hi - HT.c7 xs.length 0 lo),IsTup.new _ _⟩
def D5 (K:Frag):R2:=λx y H Q=>∃a b xs ys,x=.ref a/\y=.ref b/\gc K H a xs/\gc K H b ys/\xs≠[]/\xs.length+ys.length<=sizeLine /\
 (ys=[]->Q (.ref a) H)/\(ys≠[]->∀p,H p=none->Q (.ref p) (upd H p (.tup (xs++ys))))
theorem aT.nil_iff (r:aT xs us):us=[]↔xs=[]:=by
 cases r with
 |nil=>simp
 |cons _ _=>simp
theorem yj:cG X (binaryOp .Add) (D5 X.K):=by
 intro ac s σ H x y v u Q I rx ry h;obtain⟨a,b,xs,ys,rfl,rfl,ha,hb,hx,hz,q1,q2⟩:=h;cases rx
 cases ry
 obtain⟨its,r1,p1,_⟩:=I.tuple ha;obtain⟨uv,r2,p2,_⟩:=I.tuple hb;refine HT.yf p1 p2 (λz=>hx (r1.nil_iff.mp z)) (λz=>⟨.ref a,H,I,rfl,q1 (r2.nil_iff.mp z)⟩) (λz=>?_) (by rw[←r1.length,←r2.length];exact hz);refine⟨.ref s.heap.objs.size,_,I.laid (t':=s.toks) (o:=.tup (xs++ys)) (λb ob q=>vZ _ q) (vT _) ?_,rfl,q2 (λw=>z (r2.nil_iff.mpr w)) _ (I.hok.fresh (vT _))⟩;exact⟨by rw[uZ];exact hz,_,r1.append r2,IsTup.new _ _⟩
end
def Ab (n:Nat)(i:Int):Option Nat:=if 0<=i then (if i<n then some i.toNat else none)else if -(n:Int)<=i then some (i+n).toNat else none
def md {α:Type}(xs:List α)(i:Int):Option α:=(Ab xs.length i).bind λj=>xs[j]?
theorem yk (h:Ab n i=some j):seqIndex? i n=some j/\j<n/\-(n:Int)<=i/\i<n:=by
 unfold Ab at h;by_cases h0:0<=i
 ·rw[if_pos h0]at h;by_cases h1:i<n
  ·rw[if_pos h1]at h;have e:i.toNat=j:=vJ h;exact⟨by rw[seqIndex_of h0 h1,e],by omega,by omega,h1⟩
  ·rw[if_neg h1]at h;cases h
 ·rw[if_neg h0]at h;by_cases h1 : -(n:Int)<=i
  ·rw[if_pos h1]at h;have e:(i+n).toNat=j:=vJ h;exact⟨by rw[seqIndex_neg (by omega) h1,e],by omega,h1,by omega⟩
  ·rw[if_neg h1]at h;cases h
theorem mR {α:Type}{xs:List α}{i:Int}{v:α}(h:md xs i=some v):∃j,seqIndex? i xs.length=some j/\xs[j]? = some v/\j<xs.length/\-(xs.length:Int)<=i/\i<xs.length:=by
 unfold md at h;cases e:Ab xs.length i with
 |none=>rw[e]at h;cases h
 |some j=>
  rw[e]at h;obtain⟨h1,h2,h3,h4⟩:=yk e;exact⟨j,h1,h,h2,h3,h4⟩
theorem ym {α:Type}{xs:List α}{j:Nat}{v:α}(h:xs[j]? = some v):md xs (j:Int)=some v:=by
 have hj:j<xs.length:=(vV h).1;have e:Ab xs.length (j:Int)=some j:=by
  unfold Ab;rw[if_pos (by omega),if_pos (by omega)];simp
 unfold md;rw[e];exact h
def jX (b:Expr):Prop:=∀o i,subscripted b false o i=operate [o,i] (getItem o i)
def uK (X:Cx)(r:R2):Prop :=
 ∀(value slice:Expr)(ac:List (Addr×Obj))(s:Shared)(σ:St)(H:Hp)(x y:V)(v u:Value)(Q:VK),Inv X ac σ H s->aI x v->aI y u->r x y H Q ->
  subscripted slice false v u=operate [v,u] (getItem v u)->wq X (subscriptTail value slice v u) (EP X ac σ Q) X.xe s
def Bg (X:Cx)(id:String)(r:V->List V->Hp->VK->Prop):Prop :=
 ∀(ac:List (Addr×Obj))(s:Shared)(σ:St)(H:Hp)(x:V)(xs:List V)(v:Value)(us:List Value)(Q:VK),Inv X ac σ H s->aI x v->aT xs us->r x xs H Q ->
  wq X (call (.builtin id) (v::us)) (EP X ac σ Q) X.xe s
section
variable {X:Cx}{a b:Expr}{ta tb:TE}{pos:Pos}
theorem uK.or (h:uK X r)(h':uK X r'):uK X (λx y H Q=>r x y H Q∨r' x y H Q):=by
 intro value slice ac s σ H x y v u Q I rx ry q hs;rcases q with q|q
 ·exact h value slice ac s σ H x y v u Q I rx ry q hs
 ·exact h' value slice ac s σ H x y v u Q I rx ry q hs
theorem Bg.or {id:String}{r r':V->List V->Hp->VK->Prop}(h:Bg X id r)(h':Bg X id r'):Bg X id (λx xs H Q=>r x xs H Q∨r' x xs H Q):=by
 intro ac s σ H x xs v us Q I rx rs q;rcases q with q|q
 ·exact h ac s σ H x xs v us Q I rx rs q
 ·exact h' ac s σ H x xs v us Q I rx rs q
theorem uL (hr:uK X r)(ha:PE X a ta)(hb:PE X b tb)(hs:jX b):PE X (.Subscript a b pos) (F6 r ta tb):=by
 intro ac s σ H Q I h;exact Subscript_ (AV ha hb I h λv u s2 x y H2 I2 rx ry q=>hr a b ac s2 σ H2 x y v u Q I2 rx ry q (hs _ _))
def G5 (K:Frag):R2:=λx y H Q=>∃p xs i v,x=.ref p/\y=.int i/\gb K H p xs/\md xs i=some v/\Q v H
def G6 (K:Frag):R2:=λx y H Q=>∃p xs i v,x=.ref p/\y=.int i/\gc K H p xs/\md xs i=some v/\Q v H
def G7:R2:=λx y H Q=>∃z i c,x=.str z/\y=.int i/\z.length<=sizeLine/\md z.cps.toList i=some c/\Q (.str ⟨#[c]⟩) H
theorem yn:uK X (G5 X.K):=by
 intro value slice ac s σ H x y v u Q I rx ry h hs;obtain⟨p,xs,i,z,rfl,rfl,hq,he,q⟩:=h;cases rx
 obtain⟨t,rfl⟩:=ry;obtain⟨its,r,pl,hz⟩:=I.list hq;obtain⟨j,h1,h2,h3,h4,h5⟩:=mR he;obtain⟨w,ew,EC⟩:=r.get h2;have hl:=r.length;have hn:=kj;have g6:EP X ac σ Q w s:=⟨z,H,I,EC,q⟩;by_cases h0:0<=i
 ·have hj:i.toNat=j:=by
   rw[seqIndex_of h0 h5]at h1;exact vJ h1
  exact item_listR pl.isList h0 (by omega) (by rw[hj];simpa using ew) g6 hs
 ·have hj:(i+(its.toArray.size:Int)).toNat=j:=by
   rw[seqIndex_neg (by omega) h4]at h1;rw[vG,←hl];exact vJ h1
  exact subscriptTail_builtinR (x:=w) pl.isList.typeIs slot_list_getitem.lookup
   (wpAny_getItem_list_neg (Q:=λr s'=>r=w/\EP X ac σ Q r s') pl.isList (by omega) (by rw[vG]<;>omega) (by omega) (by rw[hj];simpa using ew) ⟨rfl,g6⟩) hs
theorem uM:uK X (G6 X.K):=by
 intro value slice ac s σ H x y v u Q I rx ry h hs;obtain⟨p,xs,i,z,rfl,rfl,hq,he,q⟩:=h;cases rx
 obtain⟨t,rfl⟩:=ry;obtain⟨its,r,pl,hz⟩:=I.tuple hq;obtain⟨j,h1,h2,h3,h4,h5⟩:=mR he;obtain⟨w,ew,EC⟩:=r.get h2;have hl:=r.length;have hn:=kj;have g6:EP X ac σ Q w s:=⟨z,H,I,EC,q⟩;exact subscriptTail_builtinR (x:=w) pl.typeIs slot_tuple_getitem.lookup
  (getItem_tuple (j:=j) (Q:=λr s'=>r=w/\EP X ac σ Q r s') pl (by omega) (by omega) (by rw[vG,←hl];exact h1) (by simpa using ew) ⟨rfl,g6⟩) hs
theorem uO:uK X G7:=by
 intro value slice ac s σ H x y v u Q I rx ry h hs;obtain⟨z,i,c,rfl,rfl,hz,he,q⟩:=h;obtain⟨t,rfl⟩:=rx;obtain⟨t',rfl⟩:=ry;obtain⟨j,h1,h2,h3,h4,h5⟩:=mR he;have hl:z.cps.toList.length=z.length:=by simp[Str.length]
 rw[hl]at h1 h4 h5;have hn:=kj;exact tail_any (typeIs_str s z t) slot_str_getitem.lookup (getItem_str (c:=c) (by
  have e1:decide (i < -(2 ^ 63:Int))=false:=decide_eq_false (by omega);have e2:decide (i ≥ 2 ^ 63)=false:=decide_eq_false (by omega);rw[e1,e2,Bool.or_false]) (by rw[h1];simpa using h2) ⟨.str ⟨#[c]⟩,H,I.tok _,⟨_,rfl⟩,q⟩) hs
theorem Inv.lst (I:Inv X ac σ H s)(h:H p=some (.lst xs)):
  ∃(its:List Value)(n:Nat),aT xs its/\s.heap.get? p=some { cls:=.type "list",data:=.seq its.toArray n }/\xs.length<=sizeLine:=by
 obtain⟨z,its,n,r,e⟩:=I.hok p _ h;exact⟨its,n,r,e,z⟩
theorem mS (lo hi:Option Int)(n:Nat):(sliceBounds lo hi none n).1=((HT.c7 n 0 lo:Nat):Int)/\(sliceBounds lo hi none n).2.1=((HT.c7 n n hi:Nat):Int)/\(sliceBounds lo hi none n).2.2=1:=by
 refine⟨?_,?_,rfl⟩
 ·cases lo with
  |none=>simp[sliceBounds,HT.c7]
  |some i=>
   simp only[sliceBounds,HT.c7,Option.getD_none,show(1:Int) > 0 by decide,if_true];by_cases h:i<0
   ·simp only[h,if_true]<;>omega
   ·simp only[h,if_false]<;>omega
 ·cases hi with
  |none=>simp[sliceBounds,HT.c7]
  |some i=>
   simp only[sliceBounds,HT.c7,Option.getD_none,show(1:Int) > 0 by decide,if_true];by_cases h:i<0
   ·simp only[h,if_true]<;>omega
   ·simp only[h,if_false]<;>omega
theorem lH (its:List Value)(lo hi:Option Int):slicePick its.toArray lo hi none=((its.drop (HT.c7 its.length 0 lo)).take (HT.c7 its.length its.length hi - HT.c7 its.length 0 lo)).toArray:=by
 obtain⟨h1,h2,h3⟩:=mS lo hi its.toArray.size;unfold slicePick;rw[h1,h2,h3];simp only[sliceRange_one,pick_run,vG]<;>rfl
def G8 (K:Frag):V->Option Int->Option Int->Hp->VK->Prop:=λx lo hi H Q=>∃a xs,x=.ref a/\gb K H a xs/\∀p,H p=none->Q (.ref p) (upd H p (.lst (lG xs lo hi)))
theorem yo:uy X (G8 X.K):=by
 intro ac s σ H x v vl vu lo hi sl Q I rx hs pl pu h;obtain⟨a,xs,rfl,hx,q⟩:=h;cases rx
 obtain⟨its,r,ht,hz⟩:=I.list hx;have bT:=r.length;refine⟨"list",_,slot_list_getitem.lookup,ht.isList.typeIs,?_⟩;refine wpAny_getItem_list_slice ht.isList hs pl pu .none (by simp) ?_ (by rw[vG]<;>omega)
 rw[lH,←bT];refine⟨.ref s.heap.objs.size,_,I.laid (t':=s.toks) (o:=.lst (lG xs lo hi)) (λb ob q=>vZ _ q) (vT _) ?_,rfl,q _ (I.hok.fresh (vT _))⟩;exact⟨vR (j5 xs lo hi) hz,_,0,(r.drop (HT.c7 xs.length 0 lo)).take (HT.c7 xs.length xs.length hi - HT.c7 xs.length 0 lo),vY _ rfl⟩
noncomputable def gY:V->Bool
 |.non=>true
 |.bl _=>true
 |.int _=>true
 |.str _=>true
 |_=>false
def xI:V->V->Bool
 |.non,.non=>true
 |.bl a,.bl b=>a == b
 |.bl a,.int b=>(if a then 1 else 0) == b
 |.int a,.bl b=>a == (if b then 1 else 0)
 |.int a,.int b=>a == b
 |.str a,.str b=>a == b
 |_,_=>false
theorem Bh (ry:aI y u)(rx:aI x v)(fy:gY y=true)(fx:gY x=true):SeqAt.EqAt A s u v (xI y x):=by
 cases y with
 |non=>
  cases ry
  cases x with
  |non=>cases rx;exact SeqAt.EqAt.same _
  |bl b=>cases rx;exact SeqAt.EqAt.none_bool b
  |int b=>obtain⟨t,rfl⟩:=rx;exact SeqAt.EqAt.none_int b t
  |str b=>obtain⟨t,rfl⟩:=rx;exact SeqAt.EqAt.none_str b t
  |_=>exact absurd (show false=true from fx) uX
 |bl a=>
  cases ry
  cases x with
  |non=>cases rx;exact SeqAt.EqAt.bool_none a
  |bl b=>cases rx;exact SeqAt.EqAt.bool_bool a b
  |int b=>obtain⟨t,rfl⟩:=rx;exact SeqAt.EqAt.bool_int a b t
  |str b=>obtain⟨t,rfl⟩:=rx;exact SeqAt.EqAt.bool_str a b t
  |_=>exact absurd (show false=true from fx) uX
 |int a=>
  obtain⟨t',rfl⟩:=ry;cases x with
  |non=>cases rx;exact SeqAt.EqAt.int_none a t'
  |bl b=>cases rx;exact SeqAt.EqAt.int_bool a t' b
  |int b=>obtain⟨t,rfl⟩:=rx;exact SeqAt.EqAt.int_int a t' b t
  |str b=>obtain⟨t,rfl⟩:=rx;exact SeqAt.EqAt.int_str a t' b t
  |_=>exact absurd (show false=true from fx) uX
 |str a=>
  obtain⟨t',rfl⟩:=ry;cases x with
  |non=>cases rx;exact SeqAt.EqAt.str_none a t'
  |bl b=>cases rx;exact SeqAt.EqAt.str_bool a t' b
  |int b=>obtain⟨t,rfl⟩:=rx;exact SeqAt.EqAt.str_int a t' b t
  |str b=>obtain⟨t,rfl⟩:=rx;exact SeqAt.EqAt.str_str a t' b t
  |_=>exact absurd (show false=true from fx) uX
 |_=>exact absurd (show false=true from fy) uX
def yp (x:V)(u:Value):Bool:=match u with
 |.none=>xI .non x
 |.bool b=>xI (.bl b) x
 |.int i _=>xI (.int i) x
 |.str z _=>xI (.str z) x
 |_=>false
theorem uP (r:aI y u)(f:gY y=true):yp x u=xI y x:=by
 cases y with
 |non=>cases r;rfl
 |bl b=>cases r;rfl
 |int i=>obtain⟨t,rfl⟩:=r;rfl
 |str z=>obtain⟨t,rfl⟩:=r;rfl
 |_=>exact absurd (show false=true from f) uX
theorem mT:∀ {xs:List V}{us:List Value},aT xs us->xs.all gY=true->us.any (yp x)=xs.any λy=>xI y x
 |_,_,.nil,_=>rfl
 |y::xs,u::us,.cons r t,f=>by
  rw[List.all_cons,vC]at f;rw[List.any_cons,List.any_cons,uP r f.1,mT t f.2]
theorem ko (rx:aI x v)(fx:gY x=true):∀ {xs:List V}{us:List Value},aT xs us->xs.all gY=true->∀u∈us,SeqAt.EqAt A s u v (yp x u)
 |_,_,.nil,_=>λu hu=>by cases hu
 |y::xs,u::us,.cons r t,f=>λu' hu=>by
  rw[List.all_cons,vC]at f;rcases vP hu with rfl|hu
  ·rw[uP r f.1];exact Bh r rx f.1 fx
  ·exact ko rx fx t f.2 u' hu
noncomputable def F7 (x:V)(xs:List V):Bool:=xs.any λy=>xI y x
def Ki (K:Frag)(KS:Bool):R2:=λx y H Q=>∃p xs,y=.ref p/\(gb K H p xs∨gc K H p xs)/\gY x=true/\xs.all gY=true/\Q (.bl (if KS then !F7 x xs else F7 x xs)) H
theorem tu:cG X (compareOp .In) (Ki X.K false):=by
 intro ac s σ H x y v u Q I rx ry h;obtain⟨p,xs,rfl,hq,fx,fs,q⟩:=h;cases ry
 rcases hq with hq|hq
 ·obtain⟨its,r,pl,hz⟩:=I.list hq;refine SeqAt.in_listAt (yp x) pl.isList (λw hw=>ko rx fx r fs w (by simpa using hw)) ⟨.bl _,H,I,rfl,?_⟩;rw[show its.toArray.any (yp x)=its.any (yp x) by simp,mT r fs];exact q
 ·obtain⟨its,r,pl,hz⟩:=I.tuple hq;refine SeqAt.in_tupleAt (yp x) pl (λw hw=>ko rx fx r fs w (by simpa using hw)) ⟨.bl _,H,I,rfl,?_⟩;rw[show its.toArray.any (yp x)=its.any (yp x) by simp,mT r fs];exact q
theorem mU:bN X (.builtin "len") (λxs H Q=>∃p ys,xs=[.ref p]/\(gb X.K H p ys∨gc X.K H p ys)/\Q (.int ys.length) H):=by
 intro ac s σ H xs us Q I r h;obtain⟨p,ys,rfl,hq,q⟩:=h;obtain⟨u,rfl,rx⟩:=kl r;cases rx
 have hn:=kj;rcases hq with hq|hq
 ·obtain⟨its,r',pl,hz⟩:=I.list hq;have bT:=r'.length;exact Calls.call_len_list pl.isList (by simp only[vG]<;>omega) ⟨.int ys.length,H,I.tok _,⟨s.toks+1,by rw[vG,bT]⟩,q⟩
 ·obtain⟨its,r',pl,hz⟩:=I.tuple hq;have bT:=r'.length;exact len_tuple pl (by simp only[vG]<;>omega) ⟨.int ys.length,H,I.tok _,⟨s.toks+1,by rw[vG,bT]⟩,q⟩
theorem mV:bN X (.builtin "len") (λxs H Q=>∃z,xs=[.str z]/\z.length<=sizeLine/\Q (.int z.length) H):=by
 intro ac s σ H xs us Q I r h;obtain⟨z,rfl,hz,q⟩:=h;obtain⟨u,rfl,t,rfl⟩:=kl r;have hn:=kj;exact len_str (by omega) ⟨.int z.length,H,I.tok _,⟨_,rfl⟩,q⟩
theorem bN.or (h:bN X f r)(h':bN X f r'):bN X f (λxs H Q=>r xs H Q∨r' xs H Q):=by
 intro ac s σ H xs us Q I rs q;rcases q with q|q
 ·exact h ac s σ H xs us Q I rs q
 ·exact h' ac s σ H xs us Q I rs q
theorem lI:bN X (.type "tuple") (λxs H Q=>∃p ys,xs=[.ref p]/\((gb X.K H p ys/\∀l,H l=none->Q (.ref l) (upd H l (.tup ys)))∨(gc X.K H p ys/\Q (.ref p) H))):=by
 intro ac s σ H xs us Q I r h;obtain⟨p,ys,rfl,h⟩:=h;obtain⟨u,rfl,rx⟩:=kl r;cases rx
 rcases h with⟨hq,q⟩|⟨hq,q⟩
 ·obtain⟨its,r',pl,hz⟩:=I.list hq;have bT:=r'.length;refine call_tuple_list pl.isList (λh' kp=>?_) (by simp only[vG]<;>omega)
  have I1:Inv X ac σ H { s with heap:=h' }:=I.kept (t':=s.toks) kp;have I2:Inv X ac σ (upd H h'.objs.size (.tup ys)) { s with heap:=h'.push { cls:=.type "tuple",data:=.seq its.toArray } } :=
   I1.laid (t':=s.toks) (λb o e=>vZ _ e) (vT _) (show bD X.prog X.w _ _ _ (.tup ys)from ⟨hz,its,r',IsTup.new _ _⟩)
  exact⟨.ref h'.objs.size,_,I2,rfl,q _ (I1.hok.fresh (vT _))⟩
 ·obtain⟨its,r',pl,hz⟩:=I.tuple hq;exact call_tuple_same pl ⟨.ref p,H,I,rfl,q⟩
def IB (K:Frag)(T:String)(x:V)(H:Hp):Prop:=match x with
 |.str _=>T = "str"
 |.int _=>T = "int"
 |.ref p=>(T = "list"/\∃xs,gb K H p xs)∨(T = "tuple"/\∃o,K.lookup p=some o/\o.cls=.type "tuple"/\o.dict=none) ∨
   (T = "dict"/\((∃b9 ob,H p=some (.dK b9 ob))∨∃b9,H p=some (.dT b9)))∨(T = "set"/\∃S n,H p=some (.set S n))
 |_=>False
theorem Bi (I:Inv X ac σ H s)(r:aI x v)(ty:IB X.K T x H):
  s.TypeIs v T/\∀a,v=.ref a->∃ob,s.heap.get? a=some ob/\ob.dict=none:=by
 cases x with
 |str z=>
  obtain⟨t,rfl⟩:=r;cases (show T = "str" from ty)
  exact⟨typeIs_str s z t,λ_ e=>nomatch e⟩
 |int i=>
  obtain⟨t,rfl⟩:=r;cases (show T = "int" from ty)
  exact⟨typeIs_int s i t,λ_ e=>nomatch e⟩
 |ref p=>
  cases r
  rcases ty with⟨rfl,xs,hq⟩|⟨rfl,o,hk,hc,hd⟩|⟨rfl,hk⟩|⟨rfl,S,n,hk⟩
  ·obtain⟨its,_,pl,_⟩:=I.list hq;refine⟨pl.isList.typeIs,λa e=>?_⟩;cases e
   obtain⟨o,n,e,c,hd,_⟩:=pl;exact⟨o,e,hd⟩
  ·refine⟨⟨o,I.kIn p o hk,hc⟩,λa e=>?_⟩;cases e
   exact⟨o,I.kIn _ o hk,hd⟩
  ·have z:∃o,s.heap.get? p=some o/\o.ExactDict:=by
    rcases hk with⟨b9,KJ,hk⟩|⟨b9,hk⟩
    ·obtain⟨_,_,_,_,_,o,_,_,e,ex,_⟩:=I.hok p _ hk;exact⟨o,e,ex⟩
    ·obtain⟨_,_,_,_,o,_,_,e,ex,_⟩:=I.hok p _ hk;exact⟨o,e,ex⟩
   obtain⟨o,e,ex⟩:=z;refine⟨⟨o,e,ex.1⟩,λa e2=>?_⟩;cases e2
   exact⟨o,e,ex.2.1⟩
  ·obtain⟨o,_,_,_,e,ex,_⟩:=I.hok p _ hk;refine⟨⟨o,e,ex.1⟩,λa e2=>?_⟩;cases e2
   exact⟨o,e,ex.2.1⟩
 |_=>exact False.elim ty
def Kj (K:Frag)(T:String)(r:V->List V->Hp->VK->Prop)(to:TE)(t:TA):TE:=λσ H Q=>to σ H λx H1=>IB K T x H1/\t σ H1 λxs H2=>r x xs H2 Q
variable {o e:Expr}{es:List Expr}{to:TE}{t:TA}{name:Str}{gX cY:Pos}{T id:String}{r:V->List V->Hp->VK->Prop}
theorem uS (pa:PlainAttrs T)(slot:Slot T name id)(CO:typeOf (.builtin id)=pure (.type "method_descriptor"))(hm:Bg X id r)(ho:PE X o to)(ha:PA X (e::es) t)
  (l5:attributeBase o name X.env (eval o X.env)=eval o X.env:=by rfl)
  (rl:((backTo cY (starEach (e::es) X.env)).all (λx=>!x.1) && (backToKw cY (keywordEach [] X.env)).all (λx=>x.1.isSome)
   && decide ((e::es).length+([]:List Keyword).length+(if([]:List Keyword).isEmpty then 0 else 1)<30))=true:=by rfl)
  (l7:(gX.endLine == cY.line)=true:=by rfl) (hs:starEach (e::es) X.env=(false,eval e X.env)::starEach es X.env:=by rfl) (Ci:(backTo cY (starEach es X.env)).any (·.1)=false:=by rfl):
  PE X (.Call (.Attribute o name gX) (e::es) [] cY) (Kj X.K T r to t):=by
 intro ac s σ H Q I h;refine wpAny_Call_method_late l5 rl l7 rfl (bY (ho ac s σ H _ I h) λv s1 ⟨x,H1,I1,r1,ty,q1⟩=>?_);obtain⟨h1,h2⟩:=Bi I1 r1 ty;refine⟨T,id,pa,slot,CO,h1,h2,?_⟩;have hA:=ha cY ac s1 σ H1 _ I1 q1;rw[hs]at hA ⊢;refine Calls.callWith_builtin (by show(false || (backTo cY (starEach es X.env)).any (·.1))=false;rw[Ci]<;>rfl) (Calls.evalArgs_plain ?_)
 exact bY hA λus s2 ⟨vs,H2,I2,r2,q2⟩=>hm ac s2 σ H2 x vs v us Q I2 r1 r2 q2
/- xs.append(e),list.index on a module's tuple .. are Bg facts of 06m -/
end
def IC (X:Cx)(id:String)(r:V->List V->Hp->VK->Prop):Prop :=
 ∀(ac:List (Addr×Obj))(s:Shared)(σ:St)(H:Hp)(x:V)(xs:List V)(v:Value)(us:List Value)(Q:VK),Inv X ac σ H s->aI x v->aT xs us->r x xs H Q ->
  wq X (call (.builtin id) (v::us)) (EP X ac σ Q) X.xe s
theorem aT.one {x:V}{us:List Value}(h:aT [x] us):∃u,us=[u]/\aI x u:=by
 cases h with
 |cons r h=>cases h;exact⟨_,rfl,r⟩
theorem aT.two {x y:V}{us:List Value}(h:aT [x,y] us):∃u v,us=[u,v]/\aI x u/\aI y v:=by
 cases h with
 |cons r h=>
  obtain⟨v,rfl,q⟩:=aT.one h;exact⟨_,_,rfl,r,q⟩
theorem aT.zero:∀ {us:List Value},aT [] us->us=[]
 |_,.nil=>rfl
theorem aT.rep (h:aT xs us):∀k:Nat,aT (List.replicate k xs).flatten (List.replicate k us).flatten
 |0=>.nil
 |k+1=>by
  rw[List.replicate_succ,List.replicate_succ,List.flatten_cons,List.flatten_cons];exact aT.append h (aT.rep h k)
theorem me (its:List Value):∀(k:Nat)(jf:List Value),
  List.foldl (λx1 x2=>x1++x2) jf.toArray (List.replicate k its.toArray)=(jf++(List.replicate k its).flatten).toArray
 |0,jf=>by simp
 |k+1,jf=>by
  have e:jf.toArray++its.toArray=(jf++its).toArray:=by simp
  have e2:(jf++its)++(List.replicate k its).flatten=jf++(List.replicate (k+1) its).flatten:=by
   rw[List.replicate_succ,List.flatten_cons,List.append_assoc]
  rw[←e2,←me its k (jf++its),←e,List.replicate_succ,List.foldl_cons]
section
variable {X:Cx}{ac:List (Addr×Obj)}{σ:St}{H:Hp}{s:Shared}{l b:Addr}{xs ys zs:List V}
theorem Inv.lset {its its':List Value}{n:Nat}{f:Array Value->Array Value}{t':Nat}(I:Inv X ac σ H s)(hH:H l=some (.lst xs))
  (e:s.heap.get? l=some { cls:=.type "list",data:=.seq its.toArray n }) (hf:f its.toArray=its'.toArray) (hv:aT ys its') (hz:ys.length<=sizeLine):
  Inv X ac σ (upd H l (.lst ys)) { s with heap:=s.heap.update l (Obj.mapSeq f),toks:=t' }:=by
 have q:=PySem.IsL.update e f;rw[hf]at q;refine I.write (x:=l) (e:=l) (by rw[hH];exact trivial) (.inl rfl) (λb' u hb hu=>(Heap.get?_update_other s.heap (Obj.mapSeq f) (Ne.symm hb)).trans hu) ⟨_,q⟩ ?_;exact⟨hz,its',_,hv,q⟩
theorem Inv.lnew (I:Inv X ac σ H s)(hv:aT ys its)(hz:ys.length<=sizeLine):
  Inv X ac σ (upd H s.heap.objs.size (.lst ys)) { s with heap:=s.heap.push { cls:=.type "list",data:=.seq its.toArray },toks:=t' } :=
 I.laid (λ_ _ q=>vZ _ q) (vT _) ⟨hz,its,0,hv,vY _ rfl⟩
theorem Inv.fresh (I:Inv X ac σ H s):H s.heap.objs.size=none:=I.hok.fresh (vT _)
theorem Inv.lstM (I:Inv X ac σ H s)(hH:H l=some (.lst xs)):xs.length<=sizeLine/\∃(its:List Value)(n:Nat),aT xs its/\xs.length=its.length/\s.heap.get? l=some { cls:=.type "list",data:=.seq its.toArray n }:=by
 obtain⟨z,its,n,r,e⟩:=I.hok l _ hH;exact⟨z,its,n,r,r.length,e⟩
theorem o0 (h:n<=sizeLine):Builtin.List.listTooLong n=false:=by
 unfold Builtin.List.listTooLong;exact decide_eq_false (by omega)
end
section
variable {X:Cx}
def rJ:V->List V->Hp->VK->Prop:=λx vs H Q=>∃l xs y,x=.ref l/\vs=[y]/\H l=some (.lst xs)/\xs.length<sizeLine/\Q .non (upd H l (.lst (xs++[y])))
theorem mf:IC X "list.append" rJ:=by
 intro ac s σ H x vs v us Q I rx rv h;obtain⟨l,xs,y,rfl,rfl,hH,hz,q⟩:=h;cases rx
 obtain⟨u,rfl,ru⟩:=rv.one;obtain⟨z,its,n,r,hl,e⟩:=I.lstM hH;refine call_meets F.slot_list_append ⟨_,e,rfl⟩ F.entry_list_append (F.args_list_append_2 _ _) (PySem.list_append l its.toArray n u (by rw[vG];omega)) ⟨e,?_⟩;refine⟨.non,_,I.lset (its':=its++[u]) hH e (by simp) (r.append (.cons ru .nil)) ?_,rfl,q⟩;rw[uZ,List.length_singleton];omega
def yq:V->List V->Hp->VK->Prop:=λx vs H Q=>∃l b xs zs,x=.ref l/\vs=[.ref b]/\H l=some (.lst xs)/\H b=some (.lst zs)/\xs.length+zs.length<=sizeLine/\Q .non (upd H l (.lst (xs++zs)))
theorem tw:IC X "list.extend" yq:=by
 intro ac s σ H x vs v us Q I rx rv h;obtain⟨l,b,xs,zs,rfl,rfl,hH,hB,hz,q⟩:=h;cases rx
 obtain⟨u,rfl,ru⟩:=rv.one;cases ru
 obtain⟨z,its,n,r,hl,e⟩:=I.lstM hH;obtain⟨z2,uv,n2,r2,Hm,e2⟩:=I.lstM hB;have hsz:its.toArray.size+uv.toArray.size<=sizeLine:=by rw[vG,vG];omega
 have xu:¬(!its.toArray.isEmpty && Builtin.List.listTooLong (its.toArray.size+uv.toArray.size))=true:=by
  rw[o0 hsz,Bool.and_false];exact uX
 refine call_meets F.slot_list_extend ⟨_,e,rfl⟩ F.entry_list_extend (F.args_list_extend_2 _ _)
  (AutoSeq1.list_extend_list_list_0 l its.toArray n b uv.toArray n2 xu (by rw[vG];omega) (by omega)) ⟨e,e2,?_⟩
 refine⟨.non,_,I.lset (its':=its++uv) hH e (by simp) (r.append r2) ?_,rfl,q⟩;rw[uZ];omega
def G9:R2:=λx y H Q=>∃l k xs,x=.ref l/\y=.int k/\H l=some (.lst xs)/\-(2 ^ 63)<=k/\k<2 ^ 63/\xs.length*k.toNat<=sizeLine /\
 ∀p,H p=none->Q (.ref p) (upd H p (.lst (List.replicate k.toNat xs).flatten))
theorem yr {α:Type}(xs:List α)(k:Nat):(List.replicate k xs).flatten.length=k*xs.length:=by
 induction k with
 |zero=>simp
 |succ k ih=>rw[List.replicate_succ,List.flatten_cons,uZ,ih,Nat.succ_mul,Nat.add_comm]
theorem Bj:cG X (binaryOp .Mult) G9:=by
 intro ac s σ H x y v u Q I rx ry h;obtain⟨l,k,xs,rfl,rfl,hH,h1,h2,hz,q⟩:=h;cases rx
 obtain⟨t,rfl⟩:=ry;obtain⟨z,its,n,r,hl,e⟩:=I.lstM hH;have bT:its.toArray.size*k.toNat<=sizeLine:=by rw[vG,←hl];exact hz
 have Hn:¬its.toArray.size*k.toNat > (2 ^ 63 - 1) / 8:=by
  have:(sizeLine:Nat)<=(2 ^ 63 - 1) / 8:=by decide
  omega
 have Ho:¬(!Builtin.List.listFitsIndex k)=true:=by
  rw[fitsIndex_both h1 h2];exact uX
 have xu:¬Builtin.List.listTooLong (its.toArray.size*k.toNat)=true:=by
  rw[o0 bT];exact uX
 have Hq:List.foldl (λx1 x2=>x1++x2) #[] (List.replicate (if its.toArray.isEmpty=true then 0 else k.toNat) its.toArray)=(List.replicate k.toNat its).flatten.toArray:=by
  have f0:∀m:Nat,List.foldl (λx1 x2=>x1++x2) #[] (List.replicate m its.toArray)=(List.replicate m its).flatten.toArray:=λm=>by
   have:=me its m [];rw[List.nil_append]at this;exact this
  rw[f0];cases its with
  |nil=>simp
  |cons a r'=>rw[if_neg (by simp)]
 refine wpAny_binaryOp_repeat_ref (T:="list") (U:="int") (by decide) ⟨_,e,rfl⟩ (λs'=>typeIs_int s' k t) noFill_list_mul F.fills_int_mul F.slot_int_rmul repeat_list F.slot_int_index.lookup
  (call_meets F.slot_int_rmul (typeIs_int s k t) F.entry_int_rmul (F.args_int_rmul_2 _ _) (int___rmul___int_list k t l its.toArray n)
   ⟨e,rfl,⟨_,e,rfl⟩,call_meets F.slot_list_mul ⟨_,e,rfl⟩ F.entry_list_mul (F.args_list_mul_2 _ _) (AutoListH.list___mul___list_int_3 l its.toArray n k t Ho Hn xu) ⟨e,?_⟩⟩)
 rw[Hq];exact⟨.ref _,_,I.lnew (t':=s.toks) (r.rep k.toNat) (by rw[yr,Nat.mul_comm];exact hz),rfl,q _ I.fresh⟩
end
end L2
namespace Att
open PySem PySem.W PySem.Calls PyProof.Rows
theorem jO:∀(ns:List Int)(vs:List Value),WellAll P h vs (ns.map WData.int)->IntsAre vs ns:=by
 intro ns;induction ns with
 |nil=>
  intro vs w;rw[List.map_nil]at w;cases w
  exact .nil
 |cons n ns ih=>
  intro vs w;rw[List.map_cons]at w;cases w with
  |cons a b=>
   cases a
   exact .cons _ _ (ih _ b)
theorem tx {l:OpenLaw}{n:Nat}(hn:l.most=some n){P:Params}{h:Heap}{args:List WData}{vals:List Value}
  (z6:l.row.toRowW.claim.pre args=true) (Hr:WellAll P h vals args):
  ∃a vs ns,vals=[Value.ref a]/\args=[WData.list (ns.map WData.int)]/\h.get? a=some { cls:=.type "list",data:=.seq vs.toArray }/\IntsAre vs ns/\ns.length<=n:=by
 have Hs:WShape.hasAll [] args [.list .int]=true:=(pre_splitW z6).1;have hc:l.pre.holds [] { args:=args }=true:=(pre_splitW z6).2;obtain⟨d,r,rfl,h1,h2⟩:=hasAllW_cons Hs;obtain rfl:=hasAllW_nil h2;obtain⟨xs,rfl,h3⟩:=hasW_list h1;obtain⟨ns,rfl⟩:=items_int h3;have bT:ns.length<=n:=by
  unfold OpenLaw.pre at hc;have h4:(WTm.not (.lt (.lit (.int (n:Int))) (.len (.arg 0)))).holds [] { args:=[.list (ns.map .int)] }=true:=by
   have h4:=(holds_andW hc).1;rw[hn]at h4;exact h4
  have h5:=condW_of h4 (w_not (w_lt w_lit (w_len_list (w_arg rfl))));rw[vH]at h5;refine Nat.le_of_not_lt λq=>?_;have q':(n:Int)<((ns.length:Nat):Int):=by omega
  first
   | (rw[decide_eq_true q']at h5;exact absurd h5 (by decide))
   | (simp at h5;omega)
 cases Hr with
 |cons w1 w2=>
  cases w2
  cases w1 with
  |list ho hall=>exact⟨_,_,ns,rfl,rfl,ho,jO ns _ hall,bT⟩
theorem t6 (l:OpenLaw)(args:List WData):l.row.toRowW.claim.post args (.bool true) args=true :=
 postW_of (r:=l.row.toRowW) (X:=(true == true))
  (show WShape.has [] (.bool true) .bool=true by first|rfl|decide|simp[WShape.has,WShape.arms,WShape.armsAll])
  (show(WTm.eq .res (.lit (.bool true))).value [] { args:=args,res:=some (.bool true),after:=args }=some (.bool (true == true))from w_eq_bool (w_res rfl) w_lit) rfl
section
variable {prog:Program}{w:World}{A:Around}{E:Value->Shared->Prop}{s:Shared}{K:Frag}
theorem D6 
  (X:K.In s.heap) (hm:makesIn K C=true) (hi:findIn K (.ref C) "__init__" = some (some (.ref fI))) (hf:isFn K (.ref fI)=true)
  (h:codeAny (model prog w) (A.under (.builtin "type.__call__" ⟨.ref C::aA,kw⟩)) (.call (.ref fI) ⟨.ref (s.heap.objs.size+1)::aA,kw⟩) (InitBack (s.heap.objs.size+1) R)
   { s with heap:=(s.heap.push emptyDict).push (instObj C s.heap.objs.size) }):codeAny (model prog w) A (.call (.ref C) ⟨aA,kw⟩) R s:=by
 obtain⟨hh,g,d,t,os⟩:=s;exact make_core (makes_of X hm) (looks_findIn X hi) (λself=>bind_fn X self (beq_iff_eq.mp hf)) (.inl rfl) h
theorem Cz 
  (X:K.In s.heap) (I:PySem.W.InstAt s.heap x ox C (some (dictOf es n))) (hg:plainGet K C name=true) (hh:hasDictIn K C=true) (ha:findIn K (.ref C) name=some none)
  (hl:getL name es=some (some v)) (hv:handedIn v=true) (h:Q v { s with toks:=s.toks+1 }):wpAny (model prog w) A (getAttr (.ref x) name Cj) Q E s :=
 get_value X I (plainGet_of hg).1 (findObj_own hh ha rfl hl) hv h
def GA (h:Heap)(L d:Addr):List (Addr×Obj):=(List.range h.objs.size).filterMap λa=>if a=L∨a=d then none else (h.get? a).map λo=>(a,o)
end
end Att
namespace L2
open PySem PySem.Spec PyProof.Rows
theorem mh:∀ {vs:List Value}{ns:List Int},IntsAre vs ns->aT (ns.map V.int) vs
 |_,_,.nil=>.nil
 |_,_,.cons n t h=>.cons ⟨t,rfl⟩ (mh h)
noncomputable def c6 (s:Stmt):Arguments:=match s with
 |.FunctionDef _ a _ _ _ _ _ _ _ _=>a
 |_=>{ posonlyargs:=[],args:=[],vararg:=none,kwonlyargs:=[],kw_defaults:=[],kwarg:=none,defaults:=[] }
noncomputable def ba (s:Stmt):List Stmt:=match s with
 |.FunctionDef _ _ b _ _ _ _ _ _ _=>b
 |_=>[]
noncomputable def ar (s:Stmt):Scope:=match s with
 |.FunctionDef _ _ _ _ _ _ sc _ _ _=>sc
 |_=>{ kind:=.function,names:=[],isGenerator:=false,isCoroutine:=false }
abbrev kq:xH:=λ_ _ _ _ _ _=>False
abbrev E0:XK:=λ_ _ _=>False
theorem Ac:qw kq X E0:=λ_ _ _ _ _ _ _ h=>h.elim
structure xN (K:Frag)(x qual:Str)(st:Stmt)(f:Addr)(fd:FuncData):Prop where
 ex:∃(oc:Value)(od:Option Addr)(kV doc pm:Value)(an:Option Addr)(bM ct:Value)(jz:Array (Option Value)),
  fd=fnOf x qual (c6 st) (ba st) (ar st) .none kV doc pm an bM ct/\K.lookup f=some ⟨oc,od,.func fd,jz⟩/\PySem.W.codeIn K bM qual=true
 kp:PySem.W.keepIn K (.ref f)=true
section
variable {P:Program}{w:World}{K:Frag}{mg:Str->Option Value}{base:Heap}
theorem xN.ok {x qual:Str}{st:Stmt}{f:Addr}{fd:FuncData}{N ps:List Str}{k:Nat}{sp:Sp}(F:xN K x qual st f fd)(S:FnScope N ps (ar st))(len:∀vs H Q E,sp vs H Q E->vs.length=ps.length)
  (xr:∀(bM:Value)(A:Around)(outer:List Env)(s:Shared)(H:Hp)(vs:List V)(Q:VK)(E:XK),cE k (A.deeper (envOfC qual (ar st) s.heap.objs.size f bM))->sp vs H Q E ->
   ∃t,ki (eC kq P w K mg base N qual (ar st) f bM A outer s H E).nox (ba st) t/\t { nx:=λ_ H'=>Q .non H',rt:=Q } (cZ N vs) H):fg P w K mg base kq (k+1) f fd ps sp:=by
 obtain⟨oc,od,kV,doc,pm,an,bM,ct,jz,rfl,lk,gt⟩:=F.ex;refine rF lk gt S len λA outer s H vs Q E hr A8=>?_;obtain⟨t,h,q⟩:=xr bM A outer s H vs Q E hr A8;exact⟨t,h.nox,q⟩
theorem xN.binds {x qual:Str}{st:Stmt}{f:Addr}{fd:FuncData}{ps:List Str}(F:xN K x qual st f fd)
  (h:∀(kV doc pm:Value)(an:Option Addr)(bM ct:Value)(us:List Value),us.length=ps.length->bindArgs (fnOf x qual (c6 st) (ba st) (ar st) .none kV doc pm an bM ct) ⟨us,[]⟩=pure (ps.zip us)):eB K fd ps []:=by
 obtain⟨oc,od,kV,doc,pm,an,bM,ct,jz,rfl,lk,gt⟩:=F.ex;exact .all (h kV doc pm an bM ct)
theorem uU {x qual:Str}{st:Stmt}{f:Addr}{oc:Value}{od an:Option Addr}{jz:Array (Option Value)}{kV doc pm bM ct:Value}(l:K.lookup f=some ⟨oc,od,.func (fnOf x qual (c6 st) (ba st) (ar st) .none kV doc pm an bM ct),jz⟩)
  (c:PySem.W.codeIn K bM qual=true) (k:PySem.W.keepIn K (.ref f)=true):xN K x qual st f (fnOf x qual (c6 st) (ba st) (ar st) .none kV doc pm an bM ct):=⟨⟨oc,od,kV,doc,pm,an,bM,ct,jz,rfl,l,c⟩,k⟩
end
def aO (H H':Hp):Prop:=∀b o,H b=some o->H' b=some o
theorem aO.refl (H:Hp):aO H H:=λ_ _ h=>h
theorem aO.trans (a:aO H H1)(b:aO H1 H2):aO H H2:=λc o h=>b c o (a c o h)
theorem aO.free (e:aO H H')(h:H' l=Option.none):H l=Option.none:=by
 cases q:H l with
 |none=>rfl
 |some o=>
  rw[e l o q]at h;cases h
theorem aO.seq {K:Frag}{H H':Hp}{a:Addr}{xs:List V}(e:aO H H')(h:gb K H a xs):gb K H' a xs:=by
 rcases h with (h|⟨o,h⟩)|h
 ·exact .inl (.inl (e _ _ h))
 ·exact .inl (.inr ⟨o,e _ _ h⟩)
 ·exact .inr h
section
variable {κ:Type}[DecidableEq κ]
noncomputable def Bk (b9:List (κ×V))(k:κ):Option V:=(b9.find? λkv=>decide (kv.1=k)).map (·.2)
theorem lF.getD (r:lF o u)(rd:aI d d'):aI (o.getD d) (u.getD d'):=by
 cases o with
 |none=>cases u with
  |none=>exact rd
  |some _=>exact(show False from r).elim
 |some _=>cases u with
  |none=>exact(show False from r).elim
  |some _=>exact r
theorem KV.length (r:KV b9 vs):b9.length=vs.length:=Paired.length r
end
def D7 (H:Hp)(a:Addr)(y:V)(r:Option V):Prop :=
 (∃b9 k ob,Rd H a (.dK b9 ob)/\y=kV k/\r=Bk b9 k)∨∃b9 k b,Rd H a (.dT b9)/\y=.ref b/\H b=some (.tup (k.map kV))/\r=Bk b9 k
theorem D7.t (e:H a=some (.dT b9))(eb:H b=some (.tup (k.map kV))):D7 H a (.ref b) (Bk b9 k):=.inr ⟨b9,k,b,.inl e,rfl,eb,rfl⟩
section
variable {X:Cx}{ac:List (Addr×Obj)}{σ:St}{H:Hp}{s:Shared}{a:Addr}{y v:V}{u r:Value}{o:Option V}{A:Around}{E:Value->Shared->Prop}
theorem Inv.big (I:Inv X ac σ H s):sysModules<s.heap.objs.size:=by
 have h:mainGlobals<s.heap.objs.size:=(I.mod.glob.keeps I.bk).lt;exact Nat.lt_trans (by decide) h
end
theorem uW (h:Heap)(hb:sysModules<h.objs.size):bD P w H (h.push { cls:=.type "dict",data:=.dict #[] }) h.objs.size (.dK [] { cls:=.type "dict",data:=.dict #[] }) :=
 ⟨vY _ rfl,uN _,beq_eq_false_iff_ne.mpr (Ne.symm (vS hb)),[],.nil,Heap.DictOf.new h⟩
def Bl:TE:=λ_ H Q=>∀p ob,H p=none->Q (.ref p) (upd H p (.dK [] ob))
section
variable {X:Cx}{pos:Pos}
theorem uY:PE X (.Dict [] [] pos) Bl:=λac s σ H Q I h=>
 wpAny_Dict_empty ⟨.ref s.heap.objs.size,_,I.laid (a:=s.heap.objs.size) (o:=.dK [] { cls:=.type "dict",data:=.dict #[] }) (t':=s.toks) (λ_ _ q=>vZ _ q) (vT _) (uW s.heap I.big),rfl,h _ _ (I.hok.fresh (vT _))⟩
end
end L2
namespace DL
open PySem L2
set_option linter.all false
abbrev St:=L2.St
inductive D where
 |non|bl (b:Bool)|int (i:Int)|str (x:Str)|ty (n:String)|tup (ds:List D)|lst (ds:List D)
  |dk (ks:List iB) (vs:List D)|dt (ks:List (List iB)) (vs:List D)
abbrev OB:=Option (D×Bool)
mutual
inductive Is (K:Frag)(H:Hp):V->D->Prop where
 |non:Is K H .non .non
 |bl (b:Bool):Is K H (.bl b) (.bl b)
 |int (i:Int):Is K H (.int i) (.int i)
 |str (x:Str):Is K H (.str x) (.str x)
 |ty (n:String):Is K H (.ty n) (.ty n)
 |tup {a:Addr}{vs:List V}{ds:List D}(h:gc K H a vs) (hs:IsL K H vs ds):Is K H (.ref a) (.tup ds)
 |lst {a:Addr}{vs:List V}{ds:List D}(h:gb K H a vs) (hs:IsL K H vs ds):Is K H (.ref a) (.lst ds)
 |dk {a:Addr}{ks:List iB}{vs:List V}{ds:List D}{ob:Obj}(h:H a=some (.dK (ks.zip vs) ob)) (hl:ks.length=vs.length) (hs:IsL K H vs ds):Is K H (.ref a) (.dk ks ds)
 |dt {a:Addr}{ks:List (List iB)}{vs:List V}{ds:List D}(h:H a=some (.dT (ks.zip vs))) (hl:ks.length=vs.length) (hs:IsL K H vs ds):Is K H (.ref a) (.dt ks ds)
inductive IsL (K:Frag)(H:Hp):List V->List D->Prop where
 |nil:IsL K H [] []
 |cons {v:V}{d:D}{vs:List V}{ds:List D}(h:Is K H v d) (hs:IsL K H vs ds):IsL K H (v::vs) (d::ds)
end
mutual
def bw:D->Bool
 |.lst _=>false
 |.dk _ _=>false
 |.dt _ _=>false
 |.tup ds=>bi ds
 |_=>true
def bi:List D->Bool
 |[]=>true
 |d::ds=>bw d && bi ds
end
@[simp] theorem C0:bw .non=true:=by simp only[bw]
@[simp] theorem D8 (b:Bool):bw (.bl b)=true:=by simp only[bw]
@[simp] theorem C1 (i:Int):bw (.int i)=true:=by simp only[bw]
@[simp] theorem C2 (x:Str):bw (.str x)=true:=by simp only[bw]
@[simp] theorem D9 (x:String):bw (.ty x)=true:=by simp only[bw]
@[simp] theorem C3 (ds:List D):bw (.tup ds)=bi ds:=by rw[bw]
@[simp] theorem C4 (ds:List D):bw (.lst ds)=false:=by rw[bw]
@[simp] theorem DA (ks:List iB)(ds:List D):bw (.dk ks ds)=false:=by rw[bw]
@[simp] theorem DB (ks:List (List iB))(ds:List D):bw (.dt ks ds)=false:=by rw[bw]
@[simp] theorem Bm:bi []=true:=by rw[bi]
@[simp] theorem Ad (d:D)(ds:List D):bi (d::ds)=(bw d && bi ds):=by rw[bi]
section
variable {K:Frag}{H H':Hp}
mutual
theorem Is.keep (hT:∀a vs,gc K H a vs->gc K H' a vs)(hL:∀a vs,gb K H a vs->gb K H' a vs)(hK:∀a b9 ob,H a=some (.dK b9 ob)->H' a=some (.dK b9 ob))(hM:∀a b9,H a=some (.dT b9)->H' a=some (.dT b9)):∀ {v:V}{d:D},Is K H v d->Is K H' v d
 |_,_,.non=>.non
 |_,_,.bl b=>.bl b
 |_,_,.int i=>.int i
 |_,_,.str x=>.str x
 |_,_,.ty x=>.ty x
 |_,_,.tup h hs=>.tup (hT _ _ h) (IsL.keep hT hL hK hM hs)
 |_,_,.lst h hs=>.lst (hL _ _ h) (IsL.keep hT hL hK hM hs)
 |_,_,.dk h hl hs=>.dk (hK _ _ _ h) hl (IsL.keep hT hL hK hM hs)
 |_,_,.dt h hl hs=>.dt (hM _ _ h) hl (IsL.keep hT hL hK hM hs)
theorem IsL.keep (hT:∀a vs,gc K H a vs->gc K H' a vs)(hL:∀a vs,gb K H a vs->gb K H' a vs)(hK:∀a b9 ob,H a=some (.dK b9 ob)->H' a=some (.dK b9 ob))(hM:∀a b9,H a=some (.dT b9)->H' a=some (.dT b9)):∀ {vs:List V}{ds:List D},IsL K H vs ds->IsL K H' vs ds
 |_,_,.nil=>.nil
 |_,_,.cons h hs=>.cons (Is.keep hT hL hK hM h) (IsL.keep hT hL hK hM hs)
end
mutual
theorem Is.keepT (hT:∀a vs,gc K H a vs->gc K H' a vs):∀ {v:V}{d:D},Is K H v d->bw d=true->Is K H' v d
 |_,_,.non,_=>.non
 |_,_,.bl b,_=>.bl b
 |_,_,.int i,_=>.int i
 |_,_,.str x,_=>.str x
 |_,_,.ty x,_=>.ty x
 |_,_,.tup h hs,n=>.tup (hT _ _ h) (IsL.keepT hT hs (by simpa using n))
 |_,_,.lst h hs,n=>by simp at n
 |_,_,.dk h hl hs,n=>by simp at n
 |_,_,.dt h hl hs,n=>by simp at n
theorem IsL.keepT (hT:∀a vs,gc K H a vs->gc K H' a vs):∀ {vs:List V}{ds:List D},IsL K H vs ds->bi ds=true->IsL K H' vs ds
 |_,_,.nil,_=>.nil
 |_,_,.cons h hs,n=>by
  simp at n;exact .cons (Is.keepT hT h n.1) (IsL.keepT hT hs n.2)
end
theorem bg (e:aO H H')(h:gc K H a xs):gc K H' a xs:=by
 rcases h with (h|⟨o,h⟩)|h
 ·exact .inl (.inl (e _ _ h))
 ·exact .inl (.inr ⟨o,e _ _ h⟩)
 ·exact .inr h
theorem Is.mono (h:Is K H v d)(e:aO H H'):Is K H' v d:=h.keep (λ_ _=>bg e) (λ_ _=>e.seq) (λ_ _ _ q=>e _ _ q) λ_ _ q=>e _ _ q
theorem IsL.mono (h:IsL K H v d)(e:aO H H'):IsL K H' v d:=h.keep (λ_ _=>bg e) (λ_ _=>e.seq) (λ_ _ _ q=>e _ _ q) λ_ _ q=>e _ _ q
theorem IsL.length:∀ {vs:List V}{ds:List D},IsL K H vs ds->vs.length=ds.length
 |_,_,.nil=>rfl
 |_,_,.cons _ t=>congrArg (· + 1) t.length
theorem IsL.get:∀ {vs:List V}{ds:List D}{i:Nat}{d:D},IsL K H vs ds->ds[i]? = some d->∃v,vs[i]? = some v/\Is K H v d
 |_,_,_,_,.nil,e=>by simp at e
 |_,_,0,_,.cons h _,e=>by simp at e;subst e;exact⟨_,rfl,h⟩
 |_,_,i+1,d,.cons _ t,e=>by
  obtain⟨u,h1,h2⟩:=t.get (i:=i) (d:=d) (by simpa using e);exact⟨u,by simpa using h1,h2⟩
theorem IsL.append:∀ {vs ws:List V}{ds es:List D},IsL K H vs ds->IsL K H ws es->IsL K H (vs++ws) (ds++es)
 |_,_,_,_,.nil,s=>s
 |_,_,_,_,.cons r t,s=>.cons r (t.append s)
theorem IsL.take:∀ {vs:List V}{ds:List D}(n:Nat),IsL K H vs ds->IsL K H (vs.take n) (ds.take n)
 |_,_,0,_=>by simpa using IsL.nil
 |_,_,_+1,.nil=>.nil
 |_,_,n+1,.cons r t=>.cons r (t.take n)
theorem IsL.drop:∀ {vs:List V}{ds:List D}(n:Nat),IsL K H vs ds->IsL K H (vs.drop n) (ds.drop n)
 |_,_,0,r=>r
 |_,_,_+1,.nil=>.nil
 |_,_,n+1,.cons _ t=>t.drop n
theorem IsL.set (h:Is K H v d):∀ {vs:List V}{ds:List D}(i:Nat),IsL K H vs ds->IsL K H (vs.set i v) (ds.set i d)
 |_,_,_,.nil=>.nil
 |_,_,0,.cons _ t=>.cons h t
 |_,_,i+1,.cons r t=>.cons r (IsL.set h i t)
theorem IsL.flat {vs:List V}{ns:List Int}(h:vs=ns.map V.int):IsL K H vs (ns.map D.int):=by
 subst h;induction ns with
 |nil=>exact .nil
 |cons n ns ih=>exact .cons (.int n) ih
end
structure Ext (B N H H':Hp):Prop where
 hh:aO H H'
 bn:aO B N
 nh:aO N H'
 new:∀a o,N a=some o->B a=some o∨H a=none
theorem Ext.refl (h:aO B H):Ext B B H H:=⟨.refl _,.refl _,h,λ_ _ e=>.inl e⟩
theorem Ext.trans (x:Ext B N H H1)(y:Ext N N2 H1 H2):Ext B N2 H H2 :=
 ⟨x.hh.trans y.hh,x.bn.trans y.bn,y.nh,λa o e=>(y.new a o e).elim (λq=>x.new a o q) λq=>.inr (x.hh.free q)⟩
theorem Ext.laid (h:aO B H)(hp:H p=none):Ext B (upd B p o) H (upd H p o):=by
 have hB:B p=none:=h.free hp;refine⟨λa u e=>?_,λa u e=>?_,λa u e=>?_,λa u e=>?_⟩
 ·rw[au (λq=>by subst q;rw[hp]at e;cases e)];exact e
 ·rw[au (λq=>by subst q;rw[hB]at e;cases e)];exact e
 ·by_cases q:a=p
  ·subst q;rw[aw]at e ⊢;exact e
  ·rw[au q]at e ⊢;exact h _ _ e
 ·by_cases q:a=p
  ·subst q;exact .inr hp
  ·rw[au q]at e;exact .inl e
theorem Ext.grow (h:aO B H)(hh:aO H H'):Ext B B H H':=⟨hh,.refl _,h.trans hh,λ_ _ e=>.inl e⟩
abbrev Env:=List OB
abbrev FE:=Env->OB
abbrev FA:=Env->Option (List D)
abbrev FT:=Env->Option Bool
def C5 (K:Frag)(H N:Hp)(v:V)(d:D):Prop:=∃(a:Addr)(vs:List V)(ds:List D),v=.ref a/\d=.lst ds/\H a=none/\N a=some (.lst vs)/\IsL K N vs ds
theorem C5.back (h:C5 K H' N v d)(e:aO H H'):C5 K H N v d:=let ⟨a,vs,ds,q,y,z,r⟩:=h;⟨a,vs,ds,q,y,e.free z,r⟩
noncomputable def o5:List Str:=["in_order","has_seal","is_first_death","bases_by","as_heard"]
noncomputable def Bn (x:Str):Str:=x ++ ".<locals>." ++ "<lambda>"
def Tb (K:Frag)(B:Hp):Prop:=∀x∈o5,∀c P,PySem.W.tabIn K x=some (c,P)->B P=some (.tbl (Bn x))
theorem Tb.mono (h:Tb K B)(e:aO B B'):Tb K B':=λx hx c P q=>e _ _ (h x hx c P q)
structure dE (K:Frag)(B:Hp)(σ:St)(ρ:Env):Prop where
 tb:Tb K B
 at':∀(i:Nat)(d:D)(b:Bool),ρ[i]? = some (some (d,b))->∃v,σ[i]? = some (some v)/\Is K B v d
theorem dE.mono (h:dE K B σ ρ)(e:aO B B'):dE K B' σ ρ:=⟨h.tb.mono e,λi d b q=>let ⟨v,h1,h2⟩:=h.at' i d b q;⟨v,h1,h2.mono e⟩⟩
def Fin (K:Frag)(B H:Hp)(d:D)(b:Bool)(Q:VK):Prop:=∀(v:V)(H' N:Hp),Ext B N H H'->Is K N v d->(b=true->C5 K H N v d)->Q v H'
def tD (K:Frag)(f:FE):TE:=λσ H Q=>∃(B:Hp)(ρ:Env)(d:D)(b:Bool),aO B H/\dE K B σ ρ/\f ρ=some (d,b)/\Fin K B H d b Q
def t7 (K:Frag)(f:FT):TT:=λσ H Q=>∃(B:Hp)(ρ:Env)(c:Bool),aO B H/\dE K B σ ρ/\f ρ=some c/\∀H',aO H H'->Q c H'
def DC (K:Frag)(f:FA):TA:=λσ H Q=>∃(B:Hp)(ρ:Env)(ds:List D),aO B H/\dE K B σ ρ/\f ρ=some ds/\∀(vs:List V)(H' N:Hp),Ext B N H H'->IsL K N vs ds->Q vs H'
def rD (K:Frag)(op:D->D->OB):R2:=λx y H Q=>∃(B:Hp)(dx dy d:D)(b:Bool),aO B H/\Is K B x dx/\Is K B y dy/\op dx dy=some (d,b)/\Fin K B H d b Q
def yt (K:Frag)(op:List D->OB):List V->Hp->VK->Prop:=λxs H Q=>∃(B:Hp)(ds:List D)(d:D)(b:Bool),aO B H/\IsL K B xs ds/\op ds=some (d,b)/\Fin K B H d b Q
theorem Fin.one (h:Fin K B H d false Q)(s:aO B H)(i:Is K B v d):Q v H:=h v H B (.refl s) i (by simp)
theorem Fin.into (h:Fin K B H d b Q)(x:Ext B N H H1):Fin K N H1 d b Q:=λv H' N' y i fr=>h v H' N' (x.trans y) i λe=>(fr e).back x.hh
@[simp] noncomputable def fC (d:D):FE:=λ_=>some (d,false)
@[simp] noncomputable def aj (i:Nat):FE:=λρ=>match ρ[i]? with|some (some (d,_))=>some (d,false)|_=>none
@[simp] noncomputable def f2 (op:D->D->OB)(fa fb:FE):FE:=λρ=>(fa ρ).bind λx=>(fb ρ).bind λy=>op x.1 y.1
@[simp] noncomputable def f1 (op:D->OB)(fa:FE):FE:=λρ=>(fa ρ).bind λx=>op x.1
@[simp] noncomputable def af:FA:=λ_=>some []
@[simp] noncomputable def aa (fa:FE)(fr:FA):FA:=λρ=>(fa ρ).bind λx=>(fr ρ).bind λxs=>some (x.1::xs)
@[simp] noncomputable def fA (op:List D->OB)(fa:FA):FE:=λρ=>(fa ρ).bind op
theorem Bo (h:tD K (aj i) σ H Q):∃v,σ[i]? = some (some v)/\Q v H:=by
 obtain⟨B,ρ,d,b,s,r,e,q⟩:=h;unfold aj at e;split at e
 ·rename_i d' b' e';cases e
  obtain⟨v,h1,h2⟩:=r.at' i _ _ e';exact⟨v,h1,q.one s h2⟩
 ·cases e
theorem yu (h:tD K (f2 op fa fb) σ H Q):tD K fa σ H λx H1=>tD K fb σ H1 λy H2=>rD K op x y H2 Q:=by
 obtain⟨B,ρ,d,b,s,r,e,q⟩:=h;obtain⟨x,ex,e⟩:=oX e;obtain⟨y,ey,e⟩:=oX e;refine⟨B,ρ,x.1,x.2,s,r,ex,λv H1 N x1 i1 _=>⟨N,ρ,y.1,y.2,x1.nh,r.mono x1.bn,ey,λv2 H2 N2 x2 i2 _=>⟨N2,x.1,y.1,d,b,x2.nh,i1.mono x2.bn,i2,e,?_⟩⟩⟩;exact q.into (x1.trans x2)
theorem yv (h:tD K (fA op fa) σ H Q):DC K fa σ H λxs H1=>yt K op xs H1 Q:=by
 obtain⟨B,ρ,d,b,s,r,e,q⟩:=h;obtain⟨x,ex,e⟩:=oX e;exact⟨B,ρ,x,s,r,ex,λv H1 N x1 i1=>⟨N,x,d,b,x1.nh,i1,e,q.into x1⟩⟩
theorem yw (h:DC K af σ H Q):Q [] H:=by
 obtain⟨B,ρ,ds,s,r,e,q⟩:=h;cases e
 exact q [] H B (.refl s) .nil
theorem va (h:DC K (aa fa fr) σ H Q):tD K fa σ H λx H1=>DC K fr σ H1 λxs H2=>Q (x::xs) H2:=by
 obtain⟨B,ρ,ds,s,r,e,q⟩:=h;obtain⟨x,ex,e⟩:=oX e;obtain⟨y,ey,e⟩:=oX e;cases e
 exact⟨B,ρ,x.1,x.2,s,r,ex,λv H1 N x1 i1 _=>⟨N,ρ,y,x1.nh,r.mono x1.bn,ey,λvs H2 N2 x2 i2=>q _ H2 N2 (x1.trans x2) (.cons (i1.mono x2.bn) i2)⟩⟩
@[simp] noncomputable def bE (f:FE):FT:=λρ=>match f ρ with|some (.bl c,_)=>some c|_=>none
@[simp] noncomputable def dR (f g:FT):FT:=λρ=>match f ρ with|some true=>g ρ|some false=>some false|none=>none
@[simp] noncomputable def dP (f g:FT):FT:=λρ=>match f ρ with|some true=>some true|some false=>g ρ|none=>none
@[simp] noncomputable def da (f:FT):FT:=λρ=>(f ρ).map (!·)
open Classical in
noncomputable def cO (H:Hp)(P:Addr->Prop):Hp:=λa=>if P a then none else H a
theorem cj (h:¬P a):cO H P a=H a:=by unfold cO;rw[if_neg h]
theorem qz (h:P a):cO H P a=none:=by unfold cO;rw[if_pos h]
theorem kr (h:cO H P a=some o):¬P a/\H a=some o:=by
 by_cases q:P a
 ·rw[qz q]at h;cases h
 ·rw[cj q]at h;exact⟨q,h⟩
theorem bH:aO (cO H P) H:=λ_ _ e=>(kr e).2
theorem eD (e:∀a o,H a=some o->¬P a->H' a=some o/\¬P' a):aO (cO H P) (cO H' P'):=λa o q=>by
 obtain⟨h1,h2⟩:=kr q;obtain⟨h3,h4⟩:=e a o h2 h1;rw[cj h4];exact h3
noncomputable def join (N N':Hp):Hp:=λa=>match N a with|some o=>some o|none=>N' a
theorem cU:aO N (join N N'):=λa o e=>by unfold join;rw[e]
theorem cH (e:N a=none):join N N' a=N' a:=by unfold join;rw[e]
def own (σ:St)(ρ:Env)(a:Addr):Prop:=∃(i:Nat)(d:D),ρ[i]? = some (some (d,true))/\σ[i]? = some (some (V.ref a))
inductive Bx (K:Frag)(C:Hp):HO->D->Prop where
 |lst {vs:List V}{ds:List D}(h:IsL K C vs ds):Bx K C (.lst vs) (.lst ds)
 |dk {ks:List iB}{vs:List V}{ds:List D}(hl:ks.length=vs.length) (h:IsL K C vs ds) {ob:Obj}:Bx K C (.dK (ks.zip vs) ob) (.dk ks ds)
 |dt {ks:List (List iB)}{vs:List V}{ds:List D}(hl:ks.length=vs.length) (h:IsL K C vs ds):Bx K C (.dT (ks.zip vs)) (.dt ks ds)
theorem Bx.mono (h:Bx K C o d)(e:aO C C'):Bx K C' o d:=by
 cases h with
 |lst h=>exact .lst (h.mono e)
 |dk hl h=>exact .dk hl (h.mono e)
 |dt hl h=>exact .dt hl (h.mono e)
theorem Bx.is (h:Bx K C o d)(e:C a=some o):Is K C (.ref a) d:=by
 cases h with
 |lst h=>exact .lst (gb.of e) h
 |dk hl h=>exact .dk e hl h
 |dt hl h=>exact .dt e hl h
structure dh (K:Frag)(B0 H0 N H:Hp)(σ:St)(ρ:Env):Prop where
 bh:aO B0 H0
 tb:Tb K B0
 ext:Ext B0 N H0 H
 len:ρ.length=σ.length
 sh:∀(i:Nat)(d:D),ρ[i]? = some (some (d,false))->∃v,σ[i]? = some (some v)/\Is K (cO N (own σ ρ)) v d
 ow:∀(i:Nat)(d:D),ρ[i]? = some (some (d,true))->∃(a:Addr)(o:HO),σ[i]? = some (some (V.ref a))/\N a=some o/\H0 a=none/\Bx K (cO N (own σ ρ)) o d
 inj:∀(i j:Nat)(a:Addr)(d e:D),ρ[i]? = some (some (d,true))->ρ[j]? = some (some (e,true))->σ[i]? = some (some (V.ref a))->σ[j]? = some (some (V.ref a))->i=j
def q0 (K:Frag)(B0 H0 H:Hp)(σ:St)(ρ:Env):Prop:=∃N,dh K B0 H0 N H σ ρ
section
variable {K:Frag}{B0 H0 N H H':Hp}{σ:St}{ρ:Env}
theorem dh.owL (s:dh K B0 H0 N H σ ρ)(i:Nat)(d:D)(q:ρ[i]? = some (some (.lst es,true)))(hd:d=.lst es:=by rfl):∃(a:Addr)(vs:List V)(ds:List D),d=.lst ds/\σ[i]? = some (some (V.ref a))/\N a=some (.lst vs)/\H0 a=none/\IsL K (cO N (own σ ρ)) vs ds:=by
 obtain⟨a,o,h1,h2,h3,h4⟩:=s.ow i _ q;cases h4 with
 |lst h4=>exact⟨a,_,es,hd,h1,h2,h3,h4⟩
def boxed:HO->Prop
 |.lst _|.dK _ _|.dT _=>True
 |_=>False
theorem Bx.boxed (h:Bx K C o d):boxed o:=by cases h<;>exact trivial
theorem dh.owned (s:dh K B0 H0 N H σ ρ)(h:own σ ρ a):∃o,(N a=some o/\boxed o)/\H0 a=none:=by
 obtain⟨i,d,h1,h2⟩:=h;obtain⟨a',o,h3,h4,h5,h6⟩:=s.ow i d h1;rw[h2]at h3;cases h3;exact⟨o,⟨h4,h6.boxed⟩,h5⟩
theorem dh.rep (s:dh K B0 H0 N H σ ρ):dE K N σ ρ:=⟨s.tb.mono s.ext.bn,λi d b q=>by
 cases b with
 |false=>obtain⟨v,h1,h2⟩:=s.sh i d q;exact⟨v,h1,h2.mono bH⟩
 |true=>
  obtain⟨a,o,h2,h3,_,h4⟩:=s.ow i d q;exact⟨_,h2,(h4.mono bH).is h3⟩⟩
noncomputable def mW (ρ:Env):Env:=ρ.map λx=>match x with|some (d,false)=>some (d,false)|_=>none
theorem vc {i:Nat}{d:D}{b:Bool}(h:(mW ρ)[i]? = some (some (d,b))):b=false/\ρ[i]? = some (some (d,false)):=by
 unfold mW at h;rw[vA]at h;cases e:ρ[i]? with
 |none=>rw[e]at h;cases h
 |some x=>
  rw[e]at h;match x,h with
  |some (d',false),h=>cases h;exact⟨rfl,rfl⟩
  |some (d',true),h=>cases h
  |none,h=>cases h
theorem dh.tbC (s:dh K B0 H0 N H σ ρ):Tb K (cO N (own σ ρ)):=λx hx c P q=>by
 have z:=s.tb.mono s.ext.bn x hx c P q;rw[cj]
 ·exact z
 ·intro y;obtain⟨o,⟨y,yb⟩,_⟩:=s.owned y;rw[z]at y;cases y;exact yb
theorem dh.repH (s:dh K B0 H0 N H σ ρ):dE K (cO N (own σ ρ)) σ (mW ρ):=⟨s.tbC,λi d b q=>by
 obtain⟨rfl,q2⟩:=vc q;exact s.sh i d q2⟩
theorem dh.grow (s:dh K B0 H0 N H σ ρ)(x:Ext N N' H H'):dh K B0 H0 N' H' σ ρ:=by
 have c:aO (cO N (own σ ρ)) (cO N' (own σ ρ)):=eD λa o e q=>⟨x.bn a o e,q⟩;refine⟨s.bh,s.tb,s.ext.trans x,s.len,λi d q=>?_,λi d q=>?_,s.inj⟩
 ·obtain⟨v,h1,h2⟩:=s.sh i d q;exact⟨v,h1,h2.mono c⟩
 ·obtain⟨a,o,h2,h3,h4,h5⟩:=s.ow i d q;exact⟨a,o,h2,x.bn _ _ h3,h4,h5.mono c⟩
theorem dh.growH (s:dh K B0 H0 N H σ ρ)(x:Ext (cO N (own σ ρ)) N' H H'):dh K B0 H0 (join N N') H' σ ρ/\aO N' (cO (join N N') (own σ ρ)):=by
 have x':Ext N (join N N') H H':=by
  refine⟨x.hh,cU,λa o e=>?_,λa o e=>?_⟩
  ·cases q:N a with
   |some u=>
    have:join N N' a=some u:=cU _ _ q;rw[this]at e;cases e;exact x.hh _ _ (s.ext.nh _ _ q)
   |none=>rw[cH q]at e;exact x.nh _ _ e
  ·cases q:N a with
   |some u=>
    have:join N N' a=some u:=cU _ _ q;rw[this]at e;cases e;exact .inl rfl
   |none=>
    rw[cH q]at e;rcases x.new a o e with z|z
    ·have:=bH _ _ z;rw[q]at this;cases this
    ·exact .inr z
 refine⟨s.grow x',λa o e=>?_⟩;rcases x.new a o e with z|z
 ·obtain⟨z1,z2⟩:=kr z;rw[cj z1];exact cU _ _ z2
 ·have hN:N a=none:=s.ext.nh.free z;have:¬own σ ρ a:=λq=>by obtain⟨vs,⟨q,_⟩,_⟩:=s.owned q;rw[hN]at q;cases q
  rw[cj this,cH hN];exact e
noncomputable def unown (ρ:Env):Env:=ρ.map λx=>x.map λy=>(y.1,false)
theorem gT {i:Nat}{d:D}{b:Bool}(h:(unown ρ)[i]? = some (some (d,b))):b=false/\∃c,ρ[i]? = some (some (d,c)):=by
 unfold unown at h;rw[vA]at h;cases e:ρ[i]? with
 |none=>rw[e]at h;cases h
 |some x=>
  rw[e]at h;match x,h with
  |some (d',c),h=>cases h;exact⟨rfl,c,rfl⟩
  |none,h=>cases h
theorem jl {a:Addr}:¬own σ (unown ρ) a:=λ⟨i,d,h,_⟩=>by
 obtain⟨z,_⟩:=gT h;cases z
theorem dh.unown (s:dh K B0 H0 N H σ ρ):dh K B0 H0 N H σ (unown ρ):=by
 refine⟨s.bh,s.tb,s.ext,by unfold DL.unown;rw[vH];exact s.len,λi d q=>?_,λi d q=>?_,λi j a d e q=>?_⟩
 ·obtain⟨_,c,q⟩:=gT q;obtain⟨v,h1,h2⟩:=s.rep.at' i d c q;exact⟨v,h1,h2.mono λa o e=>by rw[cj jl];exact e⟩
 ·obtain⟨z,_⟩:=gT q;cases z
 ·obtain⟨z,_⟩:=gT q;cases z
theorem bF {α:Type}{l:List α}{i j:Nat}{x y:α}(h:(l.set i x)[j]? = some y):(i=j/\x=y)∨(i≠j/\l[j]? = some y):=by
 by_cases e:i=j
 ·subst e;rw[List.getElem?_set]at h;split at h
  ·split at h
   ·exact .inl ⟨rfl,vJ h⟩
   ·cases h
  ·contradiction
 ·rw[vB e]at h;exact .inr ⟨e,h⟩
theorem mi {α β:Type}{l:List α}{m:List β}{i:Nat}{x y:α}(h:(l.set i x)[i]? = some y)(e:l.length=m.length):i<m.length:=by
 obtain⟨h,_⟩:=vV h;rw[List.length_set]at h;omega
theorem ng {i:Nat}{v:V}{x:OB}{a:Addr}(h:own (σ.set i (some v)) (ρ.set i x) a):(v=.ref a/\∃d,x=some (d,true))∨∃j,j≠i/\∃d,ρ[j]? = some (some (d,true))/\σ[j]? = some (some (V.ref a)):=by
 obtain⟨j,d,h1,h2⟩:=h;rcases bF h1 with⟨e,q⟩|⟨e,q⟩
 ·rcases bF h2 with⟨e2,q2⟩|⟨e2,q2⟩
  ·cases q2;exact .inl ⟨rfl,d,q⟩
  ·exact absurd e e2
 ·rcases bF h2 with⟨e2,q2⟩|⟨e2,q2⟩
  ·exact absurd e2 e
  ·exact .inr ⟨j,λz=>e z.symm,d,q,q2⟩
theorem dh.bind (s:dh K B0 H0 N H σ ρ){i:Nat}{v:V}{d:D}(h:Is K (cO N (own σ ρ)) v d):dh K B0 H0 N H (σ.set i (some v)) (ρ.set i (some (d,false))):=by
 have o:∀a,own (σ.set i (some v)) (ρ.set i (some (d,false))) a->own σ ρ a:=λa q=>by
  rcases ng q with⟨_,d',p⟩|⟨j,_,d',q1,q2⟩
  ·cases p
  ·exact⟨j,d',q1,q2⟩
 have c:aO (cO N (own σ ρ)) (cO N (own (σ.set i (some v)) (ρ.set i (some (d,false))))):=eD λa u e q=>⟨e,λz=>q (o a z)⟩;refine⟨s.bh,s.tb,s.ext,by simp[s.len],λj e q=>?_,λj e q=>?_,λj k a e f q q' h1 h2=>?_⟩
 ·rcases bF q with⟨rfl,p⟩|⟨ne,p⟩
  ·cases p
   have hi:=mi q s.len;exact⟨v,by simp[hi],h.mono c⟩
  ·obtain⟨w,h1,h2⟩:=s.sh j e p;exact⟨w,by rw[vB ne];exact h1,h2.mono c⟩
 ·rcases bF q with⟨rfl,p⟩|⟨ne,p⟩
  ·cases p
  ·obtain⟨a,o,h1,h2,h3,h4⟩:=s.ow j e p;exact⟨a,o,by rw[vB ne];exact h1,h2,h3,h4.mono c⟩
 ·rcases bF q with⟨rfl,p⟩|⟨ne,p⟩
  ·cases p
  ·rcases bF q' with⟨rfl,p'⟩|⟨ED,p'⟩
   ·cases p'
   ·rw[vB ne]at h1;rw[vB ED]at h2;exact s.inj j k a e f p p' h1 h2
theorem dh.bindOwn (s:dh K B0 H0 N H σ ρ){i:Nat}{a:Addr}{ob:HO}{dd:D}(hN:N a=some ob)(h0:H0 a=none)(CN:∀(j:Nat)(d:D),ρ[j]? = some (some (d,true))->σ[j]? ≠ some (some (V.ref a)))
  (Hs:∀(j:Nat)(d:D),j≠i->ρ[j]? = some (some (d,false))->∃v,σ[j]? = some (some v)/\Is K (cO N (λb=>own σ ρ b∨b=a)) v d) (KU:∀(j:Nat)(d:D),j≠i->ρ[j]? = some (some (d,true))->∃(a':Addr)(o:HO),σ[j]? = some (some (V.ref a'))/\N a'=some o/\Bx K (cO N (λb=>own σ ρ b∨b=a)) o d)
  (Ch:Bx K (cO N (λb=>own σ ρ b∨b=a)) ob dd):dh K B0 H0 N H (σ.set i (some (.ref a))) (ρ.set i (some (dd,true))):=by
 have o:∀b,own (σ.set i (some (V.ref a))) (ρ.set i (some (dd,true))) b->own σ ρ b∨b=a:=λb q=>by
  rcases ng q with⟨p,_⟩|⟨j,_,d',q1,q2⟩
  ·cases p;exact .inr rfl
  ·exact .inl ⟨j,d',q1,q2⟩
 have c:aO (cO N (λb=>own σ ρ b∨b=a)) (cO N (own (σ.set i (some (V.ref a))) (ρ.set i (some (dd,true))))):=eD λb u e q=>⟨e,λz=>q (o b z)⟩;refine⟨s.bh,s.tb,s.ext,by simp[s.len],λj e q=>?_,λj e q=>?_,λj k b e f q q' h1 h2=>?_⟩
 ·rcases bF q with⟨rfl,p⟩|⟨ne,p⟩
  ·cases p
  ·obtain⟨w,h1,h2⟩:=Hs j e (Ne.symm ne) p;exact⟨w,by rw[vB ne];exact h1,h2.mono c⟩
 ·rcases bF q with⟨rfl,p⟩|⟨ne,p⟩
  ·cases p
   have hi:=mi q s.len;exact⟨a,ob,by simp[hi],hN,h0,Ch.mono c⟩
  ·obtain⟨a',o',h1,h2,h4⟩:=KU j e (Ne.symm ne) p;have h3:H0 a'=none:=by
    obtain⟨a2,_,k1,_,k3,_⟩:=s.ow j e p;rw[h1]at k1;cases k1;exact k3
   exact⟨a',o',by rw[vB ne];exact h1,h2,h3,h4.mono c⟩
 ·rcases bF q with⟨rfl,p⟩|⟨ne,p⟩
  ·rcases bF q' with⟨rfl,p'⟩|⟨ED,p'⟩
   ·rfl
   ·rw[vB ED]at h2;have KW:V.ref a=V.ref b:=by
     rcases bF h1 with⟨_,z⟩|⟨z,_⟩
     ·exact vJ z
     ·exact absurd rfl z
    cases KW
    exact absurd h2 (CN k f p')
  ·rcases bF q' with⟨rfl,p'⟩|⟨ED,p'⟩
   ·rw[vB ne]at h1;have Ht:V.ref a=V.ref b:=by
     rcases bF h2 with⟨_,z⟩|⟨z,_⟩
     ·exact vJ z
     ·exact absurd rfl z
    cases Ht
    exact absurd h1 (CN j e p)
   ·rw[vB ne]at h1;rw[vB ED]at h2;exact s.inj j k b e f p p' h1 h2
end
inductive Res where
 |nx (ρ:Env)|rt (d:D) (b:Bool)|bk (ρ:Env)|ct (ρ:Env)
abbrev FS:=Env->Option Res
def DD (K:Frag)(B0 H0:Hp)(E:Ends):Res->Prop
 |.nx ρ=>∀σ H,q0 K B0 H0 H σ ρ->E.nx σ H
 |.rt d b=>∀v H N,Ext B0 N H0 H->Is K N v d->(b=true->C5 K H0 N v d)->E.rt v H
 |.bk ρ=>∀σ H,q0 K B0 H0 H σ ρ->E.bk σ H
 |.ct ρ=>∀σ H,q0 K B0 H0 H σ ρ->E.ct σ H
def mj (K:Frag)(g:FS):TS:=λE σ H=>∃(B0 H0:Hp)(ρ:Env)(r:Res),q0 K B0 H0 H σ ρ/\g ρ=some r/\DD K B0 H0 E r
section
variable {K:Frag}{B0 H0 N H H':Hp}{σ:St}{ρ:Env}{E:Ends}
theorem dh.writeB (s:dh K B0 H0 N H σ ρ)(hi:ρ[i]? = some (some (d,true)))(hσ:σ[i]? = some (some (V.ref a)))(h:Bx K (cO N (own σ ρ)) ob dd):
  dh K B0 H0 (upd N a ob) (upd H a ob) σ (ρ.set i (some (dd,true))):=by
 have oa:own σ ρ a:=⟨i,d,hi,hσ⟩;obtain⟨ws,hw,h0⟩:=s.owned oa;have b0:B0 a=none:=s.bh.free h0;have o:∀b,own σ (ρ.set i (some (dd,true))) b↔own σ ρ b:=λb=>by
  constructor
  ·rintro⟨j,e,q1,q2⟩;rcases bF q1 with⟨rfl,p⟩|⟨_,p⟩
   ·exact⟨i,d,hi,q2⟩
   ·exact⟨j,e,p,q2⟩
  ·rintro⟨j,e,q1,q2⟩;by_cases z:i=j
   ·subst z;exact⟨i,dd,by rw[List.getElem?_set_self (vV hi).1],q2⟩
   ·exact⟨j,e,by rw[vB z];exact q1,q2⟩
 have c:aO (cO N (own σ ρ)) (cO (upd N a ob) (own σ (ρ.set i (some (dd,true))))):=eD λb u e q=>by
  have ne:b≠a:=λz=>q (z ▸ oa);exact⟨by rw[au ne];exact e,λz=>q ((o b).mp z)⟩
 refine⟨s.bh,s.tb,⟨λb u e=>?_,λb u e=>?_,λb u e=>?_,λb u e=>?_⟩,by rw[List.length_set];exact s.len,λj e q=>?_,λj e q=>?_,λj k b e f q q' h1 h2=>?_⟩
 ·rw[au (λz=>by subst z;rw[h0]at e;cases e)];exact s.ext.hh _ _ e
 ·rw[au (λz=>by subst z;rw[b0]at e;cases e)];exact s.ext.bn _ _ e
 ·by_cases z:b=a
  ·subst z;rw[aw]at e ⊢;exact e
  ·rw[au z]at e ⊢;exact s.ext.nh _ _ e
 ·by_cases z:b=a
  ·subst z;exact .inr h0
  ·rw[au z]at e;exact s.ext.new _ _ e
 ·rcases bF q with⟨rfl,p⟩|⟨ne,p⟩
  ·cases p
  ·obtain⟨v,h1,h2⟩:=s.sh j e p;exact⟨v,h1,h2.mono c⟩
 ·rcases bF q with⟨rfl,p⟩|⟨ne,p⟩
  ·cases p
   exact⟨a,ob,hσ,aw,h0,h.mono c⟩
  ·obtain⟨a',o',h1,h2,h3,h4⟩:=s.ow j e p;have na:a'≠a:=λz=>by subst z;exact ne (s.inj i j _ d e hi p hσ h1)
   exact⟨a',o',h1,by rw[au na];exact h2,h3,h4.mono c⟩
 ·have get:∀ {j:Nat}{e:D},(ρ.set i (some (dd,true)))[j]? = some (some (e,true))->∃e',ρ[j]? = some (some (e',true)):=λ{j e} q=>by
   rcases bF q with⟨rfl,p⟩|⟨ne,p⟩
   ·exact⟨d,hi⟩
   ·exact⟨e,p⟩
  obtain⟨e',q1⟩:=get q;obtain⟨f',q2⟩:=get q';exact s.inj j k b e' f' q1 q2 h1 h2
theorem dh.write (s:dh K B0 H0 N H σ ρ)(hi:ρ[i]? = some (some (d,true)))(hσ:σ[i]? = some (some (V.ref a)))(h:IsL K (cO N (own σ ρ)) vs ds):
  dh K B0 H0 (upd N a (.lst vs)) (upd H a (.lst vs)) σ (ρ.set i (some (.lst ds,true))):=s.writeB hi hσ (.lst h)
theorem dh.tups (s:dh K B0 H0 N H σ ρ):∀a vs,gc K N a vs->gc K (cO N (own σ ρ)) a vs:=λa vs h=>by
 have key:∀u,N a=some u->¬boxed u->cO N (own σ ρ) a=some u:=λu e hu=>by
  rw[cj λz=>?_];exact e;obtain⟨ws,⟨q,qb⟩,_⟩:=s.owned z;rw[e]at q;cases q;exact hu qb
 rcases h with (h|⟨o,h⟩)|h
 ·exact .inl (.inl (key _ h (λq=>q)))
 ·exact .inl (.inr ⟨o,key _ h (λq=>q)⟩)
 ·exact .inr h
theorem dh.flat (s:dh K B0 H0 N H σ ρ)(h:Is K N v d)(n:bw d=true):Is K (cO N (own σ ρ)) v d:=h.keepT s.tups n
theorem dh.flats (s:dh K B0 H0 N H σ ρ)(h:IsL K N v d)(n:bi d=true):IsL K (cO N (own σ ρ)) v d:=h.keepT s.tups n
theorem dh.rebase (s:dh K B0 H0 N H σ ρ):dh K (cO N (own σ ρ)) (cO H (own σ ρ)) N H σ ρ :=
 ⟨eD λa o e q=>⟨s.ext.nh _ _ e,q⟩,s.tbC,⟨bH,bH,s.ext.nh,λa o e=>by
  by_cases q:own σ ρ a
  ·exact .inr (qz q)
  ·exact .inl (by rw[cj q];exact e)⟩,s.len,s.sh,λi d q=>by
   obtain⟨a,o,h1,h2,_,h4⟩:=s.ow i d q;exact⟨a,o,h1,h2,qz ⟨i,d,q,h1⟩,h4⟩,s.inj⟩
theorem dh.unbase (s:dh K B0 H0 N H σ ρ)(t:dh K (cO N (own σ ρ)) (cO H (own σ ρ)) N' H' σ' ρ'):dh K B0 H0 N' H' σ' ρ':=by
 have h0:aO H0 (cO H (own σ ρ)):=λa o e=>by
  rw[cj λz=>?_];exact s.ext.hh _ _ e;obtain⟨_,_,q⟩:=s.owned z;rw[q]at e;cases e
 have b0:aO B0 (cO N (own σ ρ)):=λa o e=>by
  rw[cj λz=>?_];exact s.ext.bn _ _ e;obtain⟨_,_,q⟩:=s.owned z;rw[s.bh _ _ e]at q;cases q
 refine⟨s.bh,s.tb,⟨h0.trans t.ext.hh,b0.trans t.ext.bn,t.ext.nh,λa o e=>?_⟩,t.len,t.sh,λi d q=>?_,t.inj⟩
 ·rcases t.ext.new a o e with z|z
  ·exact s.ext.new a o (bH _ _ z)
  ·exact .inr (h0.free z)
 ·obtain⟨a,o,h1,h2,h3,h4⟩:=t.ow i d q;exact⟨a,o,h1,h2,h0.free h3,h4⟩
theorem dh.based (t:dh K B0 H0 N H σ ρ):aO B0 (cO N (own σ ρ)):=λa o e=>by
 rw[cj λz=>?_];exact t.ext.bn _ _ e;obtain⟨_,_,q⟩:=t.owned z;rw[t.bh _ _ e]at q;cases q
@[simp] noncomputable def aD (g h:FS):FS:=λρ=>match g ρ with|some (.nx ρ')=>h ρ'|r=>r
@[simp] noncomputable def aU:FS:=λρ=>some (.nx ρ)
@[simp] noncomputable def dj (c:FT)(g h:FS):FS:=λρ=>match c ρ with|some true=>g ρ|some false=>h ρ|none=>none
@[simp] noncomputable def aX (f:FE):FS:=λρ=>(f ρ).map λx=>.rt x.1 x.2
@[simp] noncomputable def Ae:D->Bool
 |.dk _ _=>true
 |.dt _ _=>true
 |_=>false
@[simp] def j6 (i:Nat):FS:=λρ=>match ρ[i]? with|some (some (d,b))=>some (.rt d (b && !Ae d))|_=>none
@[simp] def Af:D->Bool
 |.lst ds=>bi ds
 |_=>false
@[simp] def setE (ρ:Env)(i:Nat)(d:D)(b:Bool):Env :=
 if bw d=true then ρ.set i (some (d,false))else if b=true/\Af d=true then ρ.set i (some (d,true))else (unown ρ).set i (some (d,false))
@[simp] def bt (i:Nat)(f:FE):FS:=λρ=>(f ρ).map λx=>.nx (setE ρ i x.1 x.2)
@[simp] def ID (i:Nat)(f:FE):FS:=λρ=>(f (mW ρ)).map λx=>.nx (ρ.set i (some (x.1,false)))
@[simp] def ni (i:Nat)(f:FE):FS:=λρ=>match ρ[i]? with
 |some (some (.lst ds,true))=>(f ρ).bind λx=>if bw x.1=true/\ds.length<sizeLine then some (.nx (ρ.set i (some (.lst (ds++[x.1]),true))))else none
 |_=>none
theorem rK (q:mj K (aD g h) E σ H):Dh (mj K g) (mj K h) E σ H:=by
 obtain⟨B0,H0,ρ,r,s,e,p⟩:=q;unfold aD at e;cases eg:g ρ with
 |none=>rw[eg]at e;cases e
 |some r1=>
  rw[eg]at e;cases r1 with
  |nx ρ'=>exact⟨B0,H0,ρ,.nx ρ',s,eg,λσ' H' s'=>⟨B0,H0,ρ',r,s',e,p⟩⟩
  |rt d b=>cases e;exact⟨B0,H0,ρ,_,s,eg,p⟩
  |bk ρ'=>cases e;exact⟨B0,H0,ρ,_,s,eg,p⟩
  |ct ρ'=>cases e;exact⟨B0,H0,ρ,_,s,eg,p⟩
theorem o6 (q:mj K aU E σ H):zU E σ H:=by
 obtain⟨B0,H0,ρ,r,s,e,p⟩:=q;cases e
 exact p σ H s
theorem q0.grown (s:dh K B0 H0 N H σ ρ)(h:aO H H'):q0 K B0 H0 H' σ ρ:=⟨N,s.grow (.grow s.ext.nh h)⟩
theorem vf (q:mj K (dj c g h) E σ H):Dj (t7 K c) (mj K g) (mj K h) E σ H:=by
 obtain⟨B0,H0,ρ,r,⟨N,s⟩,e,p⟩:=q;unfold dj at e;cases ec:c ρ with
 |none=>rw[ec]at e;cases e
 |some b=>
  rw[ec]at e;refine⟨N,ρ,b,s.ext.nh,s.rep,ec,λH1 h1=>?_⟩;cases b with
  |true=>rw[if_pos rfl];exact⟨B0,H0,ρ,r,.grown s h1,e,p⟩
  |false=>rw[if_neg (by decide)];exact⟨B0,H0,ρ,r,.grown s h1,e,p⟩
theorem rL (q:mj K (aX f) E σ H):xV (tD K f) E σ H:=by
 obtain⟨B0,H0,ρ,r,⟨N,s⟩,e,p⟩:=q;obtain⟨x,ex,e⟩:=oY e;subst e;exact⟨N,ρ,x.1,x.2,s.ext.nh,s.rep,ex,λv H1 N1 x1 i1 f1=>p v H1 N1 (s.ext.trans x1) i1 λb=>(f1 b).back s.ext.hh⟩
theorem vg (q:mj K (j6 i) E σ H):xV (om i) E σ H:=by
 obtain⟨B0,H0,ρ,r,⟨N,s⟩,e,p⟩:=q;unfold j6 at e;split at e
 ·rename_i d b ei;cases e
  cases b with
  |false=>
   obtain⟨v,h1,h2⟩:=s.sh i d ei;exact⟨v,h1,p v H N s.ext (h2.mono bH) (by simp)⟩
  |true=>
   obtain⟨a,o,h1,h2,h3,h4⟩:=s.ow i d ei;cases h4 with
   |lst h4=>exact⟨_,h1,p _ H N s.ext (.lst (gb.of h2) (h4.mono bH)) λ_=>⟨a,_,_,rfl,rfl,h3,h2,h4.mono bH⟩⟩
   |dk hl h4=>exact⟨_,h1,p _ H N s.ext (.dk h2 hl (h4.mono bH)) (by simp)⟩
   |dt hl h4=>exact⟨_,h1,p _ H N s.ext (.dt h2 hl (h4.mono bH)) (by simp)⟩
 ·cases e
theorem dh.setE (s:dh K B0 H0 N H σ ρ)(x:Ext N N1 H H1)(h:Is K N1 v d)(f:b=true->C5 K H N1 v d):dh K B0 H0 N1 H1 (σ.set i (some v)) (setE ρ i d b):=by
 have s1:=s.grow x;unfold DL.setE;by_cases hn:bw d=true
 ·rw[if_pos hn];exact s1.bind (s1.flat h hn)
 ·rw[if_neg hn];by_cases hb:b=true/\Af d=true
  ·rw[if_pos hb];obtain⟨a,vs,ds,rfl,rfl,ha,hN,hs⟩:=f hb.1;have IZ:N a=none:=s.ext.nh.free ha;have KY:¬own σ ρ a:=λz=>by obtain⟨ws,⟨q,_⟩,_⟩:=s.owned z;rw[IZ]at q;cases q
   have c:aO (cO N (own σ ρ)) (cO N1 (λb=>own σ ρ b∨b=a)):=eD λb u e q=>⟨x.bn _ _ e,λz=>z.elim q λz=>by subst z;rw[IZ]at e;cases e⟩;refine s1.bindOwn hN (s.ext.hh.free ha) (λj e q z=>KY ⟨j,e,q,z⟩) (λj e _ q=>?_) (λj e _ q=>?_) (.lst (hs.keepT (λt ts st=>?_) hb.2))
   ·obtain⟨w,h1,h2⟩:=s.sh j e q;exact⟨w,h1,h2.mono c⟩
   ·obtain⟨a',o',h1,h2,_,h4⟩:=s.ow j e q;exact⟨a',o',h1,x.bn _ _ h2,h4.mono c⟩
   ·have key:∀u,N1 t=some u->¬boxed u->cO N1 (λb=>own σ ρ b∨b=a) t=some u:=λu e hu=>by
     rw[cj λz=>?_];exact e;rcases z with z|z
     ·obtain⟨ws,⟨q,qb⟩,_⟩:=s1.owned z;rw[e]at q;cases q;exact hu qb
     ·subst z;rw[e]at hN;cases hN;exact hu trivial
    rcases st with (st|⟨o,st⟩)|st
    ·exact .inl (.inl (key _ st (λq=>q)))
    ·exact .inl (.inr ⟨o,key _ st (λq=>q)⟩)
    ·exact .inr st
  ·rw[if_neg hb];exact s1.unown.bind (h.mono λa o e=>by rw[cj jl];exact e)
theorem nj (q:mj K (bt i f) E σ H):uD (tD K f) (iI i) E σ H:=by
 obtain⟨B0,H0,ρ,r,⟨N,s⟩,e,p⟩:=q;obtain⟨x,ex,e⟩:=oY e;subst e;exact⟨N,ρ,x.1,x.2,s.ext.nh,s.rep,ex,λv H1 N1 x1 i1 f1=>p _ H1 ⟨N1,s.setE x1 i1 f1⟩⟩
theorem yx (q:mj K (ni i f) E σ H):∃(a:Addr)(us:List V),σ[i]? = some (some (V.ref a))/\H a=some (.lst us)/\km (tD K f) tq σ H λxs H2=>rJ (.ref a) xs H2 λ_ H3=>E.nx σ H3:=by
 obtain⟨B0,H0,ρ,r,⟨N,s⟩,e,p⟩:=q;unfold ni at e;split at e
 ·rename_i ds ei;obtain⟨x,ex,e⟩:=oX e;split at e
  ·rename_i hx;cases e
   obtain⟨a,vs,z7,z,h1,h2,h3,h4⟩:=s.owL i _ ei;cases z
   refine⟨a,vs,h1,s.ext.nh _ _ h2,N,ρ,x.1,x.2,s.ext.nh,s.rep,ex,λv H1 N1 x1 i1 f1=>⟨a,vs,v,rfl,rfl,x1.hh _ _ (s.ext.nh _ _ h2),by rw[h4.length];exact hx.2,?_⟩⟩;have s1:=s.grow x1;obtain⟨a',Ja,z7,z,k1,k2,_,k4⟩:=s1.owL i _ ei;cases z
   rw[h1]at k1;cases k1;rw[x1.bn _ _ h2]at k2;cases k2;exact p σ _ ⟨_,s1.write ei h1 (k4.append (.cons (s1.flat i1 hx.1) .nil))⟩
  ·cases e
 ·cases e
end
noncomputable def vh (c:FT)(g:FS):Nat->Env->Option Res
 |0,_=>none
 |n+1,ρ=>match c ρ with
  |some true=>match g ρ with
   |some (.nx ρ')=>vh c g n ρ'
   |some (.ct ρ')=>vh c g n ρ'
   |some (.bk ρ')=>some (.nx ρ')
   |r=>r
  |some false=>some (.nx ρ)
  |none=>none
def lJ (K:Frag)(J:It)(B:Hp)(ds:List D):Prop:=∀(i:Nat)(H:Hp),aO B H ->
 (∀d,ds[i]? = some d->J.go i H/\∀x H',J.yld i H x H'->∃N,Ext B N H H'/\Is K N x d)/\(ds.length<=i->J.stop i H)
def IE (K:Frag)(f:FA):TI:=λσ H R=>∃(B:Hp)(ρ:Env)(ds:List D),aO B H/\dE K B σ ρ/\f ρ=some ds/\∀(J:It)(H' N:Hp),Ext B N H H'->lJ K J N ds->R J H'
abbrev FG:=D->Env->Option Env
def yy (K:Frag)(tg:FG)(g:TG):Prop:=∀(B0 H0 N H:Hp)(σ:St)(ρ ρ':Env)(v:V)(d:D)(Q:St->Hp->Prop),dh K B0 H0 N H σ ρ->Is K (cO N (own σ ρ)) v d->tg d ρ=some ρ' ->
 (∀σ' H',q0 K B0 H0 H' σ' ρ'->Q σ' H')->g v σ H Q
@[simp] noncomputable def fN (i:Nat):FG:=λd ρ=>some (ρ.set i (some (d,false)))
theorem gA:yy K (fN i) (iI i):=by
 intro B0 H0 N H σ ρ ρ' v d Q s h e k;cases e
 exact k _ H ⟨N,s.bind h⟩
noncomputable def gf (tg:FG)(g:FS):List D->Env->Option Res
 |[],ρ=>some (.nx ρ)
 |d::ds,ρ=>(tg d ρ).bind λρ1=>match g ρ1 with
  |some (.nx ρ')=>gf tg g ds ρ'
  |some (.ct ρ')=>gf tg g ds ρ'
  |some (.bk ρ')=>some (.nx ρ')
  |r=>r
@[simp] theorem vi (tg:FG)(g:FS)(ρ:Env):gf tg g [] ρ=some (.nx ρ):=by rw[gf]
@[simp] theorem jm (tg:FG)(g:FS)(d:D)(ds:List D)(ρ:Env):gf tg g (d::ds) ρ=(tg d ρ).bind λρ1=>match g ρ1 with
  |some (.nx ρ')=>gf tg g ds ρ'
  |some (.ct ρ')=>gf tg g ds ρ'
  |some (.bk ρ')=>some (.nx ρ')
  |r=>r:=by rw[gf]
@[simp] def t8 (f:FA)(tg:FG)(g:FS):FS:=λρ=>(f (mW ρ)).bind λds=>gf tg g ds ρ
theorem o7 (ht:yy K tg t)(s1:dh K B0 H0 N H1 σ ρ)(c:aO N1 (cO N (own σ ρ)))(J1:lJ K J N1 ds)(e:gf tg g ds ρ=some r)(p:DD K B0 H0 E r):
  ∃W:Nat->Nat->St->Hp->Prop,(∃m,W 0 m σ H1)/\∀i m σ H,W i m σ H->(J.stop i H/\E.nx σ H)∨(J.go i H/\∃N:St->Hp->Prop,(∀σ' H',N σ' H'->∃m',m'<m/\W (i+1) m' σ' H')/\∀x H',J.yld i H x H'->t x σ H' λσ2 H2=>mj K g { E with nx:=N,ct:=N,bk:=E.nx } σ2 H2):=by
 refine⟨λi m σ H=>∃(N:Hp)(ρ:Env),dh K B0 H0 N H σ ρ/\aO N1 (cO N (own σ ρ))/\m=ds.length - i/\i<=ds.length/\gf tg g (ds.drop i) ρ=some r,⟨ds.length,_,ρ,s1,c,rfl,uN _,e⟩,?_⟩;clear e s1 c;rintro i m σ H ⟨N,ρ,s,c,rfl,hi,e⟩;have hs:aO N1 H:=c.trans (bH.trans s.ext.nh);obtain⟨j1,j2⟩:=J1 i H hs;by_cases fH:i<ds.length
 ·obtain⟨go,yl⟩:=j1 ds[i] (by simp[fH]);rw[List.drop_eq_getElem_cons fH]at e;obtain⟨ρ1,e1,e⟩:=oX e;refine .inr ⟨go,λσ' H'=>∃(N:Hp)(ρ:Env),dh K B0 H0 N H' σ' ρ/\aO N1 (cO N (own σ' ρ))/\gf tg g (ds.drop (i+1)) ρ=some r,λσ' H' ⟨N',ρ',s',c',e'⟩=>⟨_,by omega,N',ρ',s',c',rfl,fH,e'⟩,λx H' y=>?_⟩;obtain⟨N2,x2,i2⟩:=yl x H' y;have x3:Ext (cO N (own σ ρ)) (join (cO N (own σ ρ)) N2) H H':=by
   refine⟨x2.hh,cU,λa o e=>?_,λa o e=>?_⟩
   ·cases q:cO N (own σ ρ) a with
    |some u=>rw[cU _ _ q]at e;cases e;exact x2.hh _ _ (s.ext.nh _ _ (bH _ _ q))
    |none=>rw[cH q]at e;exact x2.nh _ _ e
   ·cases q:cO N (own σ ρ) a with
    |some u=>rw[cU _ _ q]at e;cases e;exact .inl rfl
    |none=>
     rw[cH q]at e;rcases x2.new a o e with z|z
     ·rw[c _ _ z]at q;cases q
     ·exact .inr z
  obtain⟨s2,c2⟩:=s.growH x3;have c3:aO N2 (join (cO N (own σ ρ)) N2):=λa o e=>by
   rcases x2.new a o e with z|z
   ·exact cU _ _ (c _ _ z)
   ·rw[cH ((bH.trans s.ext.nh).free z)];exact e
  have i3:=i2.mono (c3.trans c2);have c4:aO N1 (cO (join N (join (cO N (own σ ρ)) N2)) (own σ ρ)):=(x2.bn.trans c3).trans c2;refine ht _ _ _ _ _ _ _ _ _ _ s2.rebase i3 e1 λσ2 H2 ⟨N4,s4⟩=>?_;cases eg:g ρ1 with
  |none=>rw[eg]at e;cases e
  |some r1=>
   rw[eg]at e;refine⟨_,_,ρ1,r1,⟨N4,s4⟩,eg,?_⟩;have back:∀ {σ':St}{H':Hp}{ρ':Env}{N':Hp},dh K _ _ N' H' σ' ρ'->dh K B0 H0 N' H' σ' ρ'/\aO N1 (cO N' (own σ' ρ')):=λt=>⟨s2.unbase t,c4.trans t.based⟩;cases r1 with
   |nx ρ'=>exact λσ' H' ⟨N',t⟩=>⟨N',ρ',(back t).1,(back t).2,e⟩
   |ct ρ'=>exact λσ' H' ⟨N',t⟩=>⟨N',ρ',(back t).1,(back t).2,e⟩
   |bk ρ'=>cases e;exact λσ' H' ⟨N',t⟩=>p σ' H' ⟨N',(back t).1⟩
   |rt d b=>
    cases e
    intro v H' N' x' i' f';have y:=s2.rebase.ext;have h0:aO H0 (cO H' (λ_=>False)):=λa o e=>by rw[cj (λz=>z)];exact x'.hh _ _ (by
     rw[cj λz=>?_];exact s2.ext.hh _ _ e;obtain⟨_,_,q⟩:=s2.owned z;rw[q]at e;cases e)
    have Mt:aO H0 (cO H' (λ_=>False)):=h0;have hH:aO H0 (cO H' (λ_=>False)):=h0;have hc:∀a,cO H' (λ_=>False) a=H' a:=λa=>cj (λz=>z);have hb:aO H0 (cO _ (own σ ρ)):=λa o e=>by
     rw[cj λz=>?_];exact s2.ext.hh _ _ e;obtain⟨_,_,q⟩:=s2.owned z;rw[q]at e;cases e
    have bb:aO B0 (cO _ (own σ ρ)):=λa o e=>by
     rw[cj λz=>?_];exact s2.ext.bn _ _ e;obtain⟨_,_,q⟩:=s2.owned z;rw[s2.bh _ _ e]at q;cases q
    refine p v H' N' ⟨hb.trans x'.hh,bb.trans x'.bn,x'.nh,λa o e=>?_⟩ i' λz=>(f' z).back hb;rcases x'.new a o e with z|z
    ·exact s2.ext.new a o (bH _ _ z)
    ·exact .inr (hb.free z)
 ·have ei:i=ds.length:=by omega
  subst ei;rw[List.drop_eq_nil_of_le (vT _)]at e;cases e
  exact .inl ⟨j2 (vT _),p σ H ⟨N,s⟩⟩
theorem yz (ht:yy K tg t)(q:mj K (t8 f tg g) E σ H):AU (IE K f) t (mj K g) E σ H:=by
 obtain⟨B0,H0,ρ,r,⟨N,s⟩,e,p⟩:=q;obtain⟨ds,ef,e⟩:=oX e;refine⟨cO N (own σ ρ),mW ρ,ds,bH.trans s.ext.nh,s.repH,ef,λJ H1 N1 x1 J1=>?_⟩;obtain⟨s1,c⟩:=s.growH x1;exact o7 ht s1 c J1 e p
def C6 (K:Frag)(f:FA):TI:=λσ H R=>∃(B:Hp)(ρ:Env)(ds:List D),aO B H/\dE K B σ ρ/\f ρ=some ds/\∀(J:It)(H' N:Hp),Ext B N H H'->(∀B',lJ K J B' ds)->R J H'
@[simp] def fO (f:FA)(tg:FG)(g:FS):FS:=λρ=>(f ρ).bind λds=>gf tg g ds ρ
theorem o8 (ht:yy K tg t)(q:mj K (fO f tg g) E σ H):AU (C6 K f) t (mj K g) E σ H:=by
 obtain⟨B0,H0,ρ,r,⟨N,s⟩,e,p⟩:=q;obtain⟨ds,ef,e⟩:=oX e;refine⟨N,ρ,ds,s.ext.nh,s.rep,ef,λJ H1 N1 x1 J1=>?_⟩;exact o7 ht (s.grow x1) (aO.refl _) (J1 _) e p
end DL
namespace DL
open PySem PySem.Spec PyProof.Rows L2
abbrev JE (X:Cx)(e:Expr)(f:FE):Prop:=PE X e (tD X.K f)
abbrev JT (X:Cx)(e:Expr)(f:FT):Prop:=PT X e (t7 X.K f)
abbrev JW (X:Cx)(e:Expr)(f:FT):Prop:=PW X e (t7 X.K f)
abbrev JA (X:Cx)(es:List Expr)(f:FA):Prop:=PA X es (DC X.K f)
abbrev JS (X:Cx)(st:Stmt)(g:FS):Prop:=PS X st (mj X.K g)
abbrev nZ (X:Cx)(st:List Stmt)(g:FS):Prop:=ki X st (mj X.K g)
abbrev JI (X:Cx)(tg bS:Expr)(f:FA):Prop:=PI X tg bS (IE X.K f)
def Bp (M:Model)(A:Around)(l8:List Expr)(lS:Expr)(env:PySem.Env)(jf:Value)(E:Value->Shared->Prop)(P:Shared->Prop):Shared->Prop :=
 wpAny M A (forIn l8 true λc r=>if r=true then do let ok ←isTrue c env (eval c env);pure (ForInStep.yield ok)else pure (ForInStep.yield r))
  (λok s₃=>if ok=true then wpAny M A (eval lS env) (λx=>wpAny M A (call (.builtin "list.append") [jf,x]) (λ_=>P) E) E s₃ else P s₃) E
theorem nk {E:Value->Shared->Prop}(hE:∀x s,¬E x s)(I:Nat->Shared->Prop)
  (Cf:∀n s,I n s->wpAny (model prog w) A (pyNext it) (λr s₁=>match r with
   |none=>R (.ok .next) s₁
   |some v=>wpAny (model prog w) A (letOwnedTupleGo lx it v) (λ_=>wpAny (model prog w) A (assign lx env v) (λ_=>Bp (model prog w) A l8 lS env jf E λs=>∃m,m<n/\I m s) E) E s₁) E s)
  (n:Nat) (h:I n s):codeAny (model prog w) A (.compLoop (.ListComp lS [⟨lx,bS,l8,0⟩] scope pos) 0 it jf env) R s:=by
 refine codeAny_loop rfl I (λn s hI=>?_) n h;show wpAny _ A ((compTurn (.ListComp lS [⟨lx,bS,l8,0⟩] scope pos) 0 it jf env).onRaise (λx=>do noteFrame x env;theTreesLotGoes x)) _ _ s;refine wpAny_noted (wpAny_mono (E:=E) ?_ (λ_ _ q=>q) λ_ _ z=>(hE _ _ z).elim);rw[compTurn_list];refine wX (wpAny_standAt (wX (bY (Cf n s hI) λr s₁ h₁=>?_)));cases r with
 |none=>exact wY h₁
 |some v=>
  refine wX (bY h₁ λ_ s₁ h₁=>wX (bY h₁ λ_ s₂ h₂=>wX (bY h₂ λok s₃ h₃=>?_)));cases ok with
  |false=>exact wY ⟨rfl,h₃⟩
  |true=>exact wX (wX (bY h₃ λx s₄ h₄=>wX (bY h₄ λ_ s₅ h₅=>wY (wY ⟨rfl,h₅⟩))))
theorem Ext.upd (x:Ext B N H H')(h:H a=none)(hN:N a=none):Ext B N H (upd H' a o) :=
 ⟨λb u e=>by rw[au (λz=>by subst z;rw[h]at e;cases e)];exact x.hh _ _ e,x.bn,λb u e=>by rw[au (λz=>by subst z;rw[hN]at e;cases e)];exact x.nh _ _ e,x.new⟩
noncomputable abbrev fu (X:Cx)(N':List Str)(scope:Scope)(cl:List (Str×Addr))(C:Addr)(s₃:Shared)(H₃:Hp)(fp:List Addr):Cx :=
 { X with N:=N',s₀:=s₃,H₀:=H₃,env:=compEnvC scope cl C X.env,outer:=X.stack,stack:=X.stack,ex:=fp,fn:=λ_=>false,pn:=[],xe:=λ_ _=>False }
inductive jg (X:Cx)(N':List Str)(scope:Scope)(cl:List (Str×Addr)):Nat->List Nat->Prop where
 |nil {j:Nat}(h:N'.length=j):jg X N' scope cl j []
 |cons {j i:Nat}{r:List Nat}{x:Str}(h1:N'[j]? = some x) (h2:X.N[i]? = some x) (h3:X.env.kindOf x=some .cell∨X.env.kindOf x=some .free)
   (h4:(relabel scope X.env).names.lookup x=some .cell∨(relabel scope X.env).names.lookup x=some .free) (h5:cl.lookup x=X.env.cells.lookup x) (t:jg X N' scope cl (j+1) r):jg X N' scope cl j (i::r)
theorem jg.len:∀ {j:Nat}{cap:List Nat},jg X N' scope cl j cap->N'.length=j+cap.length
 |_,_,.nil h=>by rw[h];rfl
 |j,i::r,.cons _ _ _ _ _ t=>by rw[t.len,vD];omega
theorem jg.get:∀ {j:Nat}{cap:List Nat}{k i:Nat},jg X N' scope cl j cap->cap[k]? = some i->∃x,N'[j+k]? = some x/\X.N[i]? = some x/\(X.env.kindOf x=some .cell∨X.env.kindOf x=some .free) /\
  ((relabel scope X.env).names.lookup x=some .cell∨(relabel scope X.env).names.lookup x=some .free)/\cl.lookup x=X.env.cells.lookup x
 |_,_,_,_,.nil _,e=>by simp at e
 |j,_,0,_,.cons h1 h2 h3 h4 h5 _,e=>by simp at e;subst e;exact⟨_,h1,h2,h3,h4,h5⟩
 |j,_,k+1,i,.cons _ _ _ _ _ t,e=>by
  obtain⟨x,q,r⟩:=t.get (k:=k) (i:=i) (by simpa using e);exact⟨x,by rw[show j+(k+1)=j+1+k by omega];exact q,r⟩
structure CompSc (X:Cx)(scope:Scope)(cl:List (Str×Addr)):Prop where
 clos:closureFor scope X.env=pure cl
 nocell:∀y∈scope.names,y.2≠.cell
 kind:scope.kind=.function
 names:∀y∈scope.names,y.2=.local->scope.names.lookup y.1=some .local
 sub:∀x c,cl.lookup x=some c->X.env.cells.lookup x=some c
 has:∀x,((relabel scope X.env).names.lookup x=some .cell∨(relabel scope X.env).names.lookup x=some .free)->∃c,cl.lookup x=some c
noncomputable def dm:List (Str×NameKind)->List (Str×Addr)->List (Str×Addr)->List (Str×Addr)
 |[],_,cs=>cs
 | (n,k)::r,cells,cs=>dm r cells (if k == .free then (match cells.lookup n with|some c=>(n,c)::cs|none=>cs)else cs)
theorem t9:∀(names:List (Str×NameKind))(cs:List (Str×Addr)),(∀y∈names,y.2=.free->(env.cells.lookup y.1).isSome=true) ->
    (do let mut cs:=cs
        for (name,kind)in names do
          if kind == .free then cs:=(name,←cellOf env name)::cs
        return cs:Sem (List (Str×Addr)))=pure (dm names env.cells cs):=by
  intro names;induction names with
  |nil=>intro cs _;rfl
  |cons y r ih=>
    intro cs h;obtain⟨n,k⟩:=y;have EG:=λcs=>ih cs λy hy=>h y (mZ _ hy);by_cases hk:k=.free
    . subst hk;have hc:=h (n,.free) mX rfl;cases q:env.cells.lookup n with
      |none=>rw[q]at hc;cases hc
      |some c=>
        have e1:dm ((n,.free)::r) env.cells cs=dm r env.cells ((n,c)::cs):=by
          rw[dm,q];rfl
        rw[e1,←EG ((n,c)::cs)];have e2:cellOf env n=pure c:=by unfold cellOf;rw[q]
        simp only[List.forIn_cons,beq_self_eq_true,if_true,e2];rfl
    . have hb:(k == NameKind.free)=false:=by simpa using hk
      have e1:dm ((n,k)::r) env.cells cs=dm r env.cells cs:=by rw[dm,hb];rfl
      rw[e1,←EG cs];simp only[List.forIn_cons,hb,uV,if_false];rfl
theorem ku:∀(names:List (Str×NameKind))(cs:List (Str×Addr)),(∀y d,cs.lookup y=some d->cells.lookup y=some d)->(dm names cells cs).lookup x=some c->cells.lookup x=some c
 |[],cs,h,e=>h x c e
 | (n,k)::r,cs,h,e=>by
  rw[dm]at e;refine ku r _ (λy d q=>?_) e;split at q
  ·split at q
   ·rename_i c' ec;rw[List.lookup_cons]at q;split at q
    ·rename_i hy;cases q
     rw[eq_of_beq hy];exact ec
    ·exact h y d q
   ·exact h y d q
  ·exact h y d q
theorem ml:∀(names:List (Str×NameKind))(cs:List (Str×Addr)),(cs.lookup x).isSome=true->((dm names cells cs).lookup x).isSome=true
 |[],cs,h=>h
 | (n,k)::r,cs,h=>by
  rw[dm];refine ml r _ ?_;split
  ·split
   ·rw[List.lookup_cons];split
    ·rfl
    ·exact h
   ·exact h
  ·exact h
theorem kx:∀(names:List (Str×NameKind))(cs:List (Str×Addr)),(x,NameKind.free)∈names->(cells.lookup x).isSome=true->((dm names cells cs).lookup x).isSome=true
 | (n,k)::r,cs,hm,hc=>by
  rw[dm];rcases vP hm with e|e
  ·cases e
   refine ml r _ ?_;cases q:cells.lookup x with
   |none=>rw[q]at hc;cases hc
   |some c=>simp
  ·exact kx r _ e hc
theorem ij {α:Type}{x:Str}{k:α}:∀ {l:List (Str×α)},l.lookup x=some k->(x,k)∈l
 | (n,j)::r,h=>by
  rw[List.lookup_cons]at h;split at h
  ·rename_i e;cases h
   rw[eq_of_beq e];exact mX
  ·exact mZ _ (ij h)
theorem Bq {X:Cx}{scope:Scope}(h1:∀y∈scope.names,y.2≠.cell)(h2:scope.kind=.function)(h3:∀y∈scope.names,y.2=.local->scope.names.lookup y.1=some .local)(Hw:(scope.names.all λy=>!(y.2 == NameKind.free) || (X.env.cells.lookup y.1).isSome)=true):
  CompSc X scope (dm scope.names X.env.cells []):=by
 have h4:∀y∈scope.names,y.2=.free->(X.env.cells.lookup y.1).isSome=true:=λy hy e=>by
  have:=uR Hw y hy;rw[e]at this;simpa using this
 have frees:∀x,((relabel scope X.env).names.lookup x=some .cell∨(relabel scope X.env).names.lookup x=some .free)->(x,NameKind.free)∈scope.names:=λx h=>by
  have:∃k,(x,k)∈(relabel scope X.env).names/\(k=.cell∨k=.free):=by
   rcases h with h|h
   ·exact⟨_,ij h,.inl rfl⟩
   ·exact⟨_,ij h,.inr rfl⟩
  obtain⟨k,hm,hk⟩:=this;obtain⟨⟨n,j⟩,hj,e⟩:=vO hm;dsimp only at e;split at e
  ·rename_i hc;rw[vC,vC]at hc;cases e
   rw[←eq_of_beq hc.1.1];exact hj
  ·cases e
   rcases hk with rfl|rfl
   ·exact absurd rfl (h1 _ hj)
   ·exact hj
 exact⟨t9 scope.names [] h4,h1,h2,h3,λx c e=>ku scope.names [] (λy d q=>by cases q) e,λx h=>by
  have:=kx (x:=x) scope.names [] (frees x h) (h4 _ (frees x h) rfl);exact Option.isSome_iff_exists.mp this⟩
theorem y0 {scope:Scope}{cells:List (Str×Addr)}{x:Str}(h:(x,NameKind.free)∈scope.names)(hc:(cells.lookup x).isSome=true):(dm scope.names cells []).lookup x=cells.lookup x:=by
 obtain⟨c,e⟩:=Option.isSome_iff_exists.mp (kx (x:=x) scope.names [] h hc);rw[e,ku scope.names [] (λy d q=>by cases q) e]
noncomputable def tE (nT:Nat)(cap:List Nat)(σ:St):St:=List.replicate nT none++cap.map λi=>(σ[i]?).join
noncomputable def fm (nT:Nat)(cap:List Nat)(ρ:Env):Env:=List.replicate nT none++cap.map λi=>match ρ[i]? with|some (some (d,_))=>some (d,false)|_=>none
theorem rM {α:Type}{nT:Nat}{cap:List Nat}{f:Nat->Option α}{j:Nat}{v:α}(h:(List.replicate nT none++cap.map f)[j]? = some (some v)):∃k i,j=nT+k/\cap[k]? = some i/\f i=some v:=by
 by_cases hj:j<nT
 ·rw[List.getElem?_append_left (by simpa using hj),List.getElem?_replicate,if_pos hj]at h;cases h
 ·rw[List.getElem?_append_right (by simpa using Nat.not_lt.mp hj),List.length_replicate,vA]at h;obtain⟨i,h1,h2⟩:=oY h;exact⟨j - nT,i,by omega,h1,h2⟩
theorem y2 {α:Type}{nT:Nat}{cap:List Nat}{f:Nat->Option α}{k i:Nat}{v:α}(h1:cap[k]? = some i)(h2:f i=some v):(List.replicate nT none++cap.map f)[nT+k]? = some (some v):=by
 rw[List.getElem?_append_right (by simp),List.length_replicate,vA,Nat.add_sub_cancel_left,h1];simp[h2]
theorem dE.caps {K:Frag}{B:Hp}{σ:St}{ρ:Env}{nT:Nat}{cap:List Nat}(h:dE K B σ ρ):dE K B (tE nT cap σ) (fm nT cap ρ):=⟨h.tb,λj d b q=>by
 obtain⟨k,i,rfl,h1,h2⟩:=rM q;split at h2
 ·rename_i d' b' e;cases h2
  obtain⟨v,g1,g2⟩:=h.at' i _ _ e;exact⟨v,y2 h1 (by rw[g1];rfl),g2⟩
 ·cases h2⟩
noncomputable def dS (tg:FG)(c:FT)(fe:FE)(ρ:Env):List D->Option (List D)
 |[]=>some []
 |d::r=>(tg d ρ).bind λρ1=>(c ρ1).bind λb=>if b=true then (fe ρ1).bind λx=>(dS tg c fe ρ r).map (x.1 :: ·)else dS tg c fe ρ r
@[simp] theorem C7 (tg:FG)(c:FT)(fe:FE)(ρ:Env):dS tg c fe ρ []=some []:=by rw[dS]
@[simp] theorem q8 (tg:FG)(c:FT)(fe:FE)(ρ:Env)(d:D)(r:List D):dS tg c fe ρ (d::r)=(tg d ρ).bind λρ1=>(c ρ1).bind λb=>if b=true then (fe ρ1).bind λx=>(dS tg c fe ρ r).map (x.1 :: ·)else dS tg c fe ρ r:=by rw[dS]
@[simp] def bO (fi:FA)(nT:Nat)(cap:List Nat)(tg:FG)(c:FT)(fe:FE):FE:=λρ=>(fi ρ).bind λam=>if am.length<=sizeLine then (dS tg c fe (fm nT cap ρ) am).map λds=>(.lst ds,true)else none
def Ag (K:Frag)(n:Nat)(tg:FG)(g:TG):Prop:=∀(B H:Hp)(σ:St)(ρ ρ1:Env)(v:V)(d:D)(Q:St->Hp->Prop),(∀i,i<n->ρ[i]? = some none)->dE K B σ ρ->aO B H->Is K B v d->tg d ρ=some ρ1 ->
 ρ.length=σ.length->(∀σ1,dE K B σ1 ρ1->(∀B',dE K B' σ ρ->dE K B' σ1 ρ)->ρ.length=σ1.length->Q σ1 H)->g v σ H Q
theorem o9 {K:Frag}{n i:Nat}(hi:i<n):Ag K n (fN i) (iI i):=by
 intro B H σ ρ ρ1 v d Q cl rep s h e hl k;cases e
 have ur:i<σ.length:=by
  have:=(vV (cl i hi)).1;omega
 refine k _ ⟨rep.tb,λj e b q=>?_⟩ ?_ (by simpa using hl)
 ·rcases bF q with⟨rfl,p⟩|⟨ne,p⟩
  ·cases p
   exact⟨v,by simp[ur],h⟩
  ·obtain⟨w,h1,h2⟩:=rep.at' j e b p;exact⟨w,by rw[vB ne];exact h1,h2⟩
 ·intro B' EH;refine⟨EH.tb,λj e b q=>?_⟩;obtain⟨w,h1,h2⟩:=EH.at' j e b q;have ne:i≠j:=λz=>by subst z;rw[cl i hi]at q;cases q
  exact⟨w,by rw[vB ne];exact h1,h2⟩
def JC (X:Cx)(l8:List Expr)(c:FT):Prop:=∀(ac:List (Addr×Obj))(s:Shared)(σ:St)(H:Hp)(Q:Bool->Hp->Prop),Inv X ac σ H s->t7 X.K c σ H Q ->
 wq X (forIn l8 true λc r=>if r=true then do let ok ←isTrue c X.env (eval c X.env);pure (ForInStep.yield ok)else pure (ForInStep.yield r)) (TP X ac σ Q) X.xe s
@[simp] noncomputable def dz:FT:=λ_=>some true
theorem fw:JC X [] dz:=by
 intro ac s σ H Q I h;obtain⟨B,ρ,c,sB,rep,e,q⟩:=h;cases e
 exact wpAny_tests_nil ⟨H,I,q H (.refl H)⟩
theorem np (h:JT X e f):JC X [e] f:=λac s σ H Q I q=>wpAny_tests_one (h ac s σ H Q I q)
inductive CI (Y:Cx)(tn:Nat->Heap->Prop)(fp:List Addr)(N1 H2:Hp)(κ:Env)(a:Addr)(l:List D->Option (List D))(am ds:List D)(s:Shared):Nat->Prop
 |mk (i:Nat) (N:Hp) (vs:List V) (es r:List D) (σ:St) (H:Hp) (I:Inv Y [] σ H s) (ti:tn i s.heap) (hn:∀b∈fp,H b=none) (hi:i<=am.length) (rp:dE Y.K N1 σ κ) (hl:κ.length=σ.length)
   (x:Ext N1 N H2 H) (n0:N a=none) (h0:H a=some (.lst vs)) (vl:vs.length<=i) (iv:IsL Y.K N vs es) (er:l (am.drop i)=some r) (ed:es++r=ds):CI Y tn fp N1 H2 κ a l am ds s (am.length - i)
theorem Ext.both (x:Ext N1 N H2 H)(y:Ext N1 N' H H'):Ext N (join N N') H H'/\aO N' (join N N'):=by
 refine⟨⟨y.hh,cU,λa o e=>?_,λa o e=>?_⟩,λa o e=>?_⟩
 ·cases z:N a with
  |some u'=>rw[cU _ _ z]at e;cases e;exact y.hh _ _ (x.nh _ _ z)
  |none=>rw[cH z]at e;exact y.nh _ _ e
 ·cases z:N a with
  |some u'=>rw[cU _ _ z]at e;cases e;exact .inl rfl
  |none=>
   rw[cH z]at e;exact(y.new a o e).elim (λz'=>by rw[x.bn _ _ z']at z;cases z) .inr
 ·exact(y.new a o e).elim (λz=>cU _ _ (x.bn _ _ z)) λz=>by rw[cH (x.nh.free z)];exact e
theorem Ext.off (x:Ext B N H H')(h:B a=none)(h':H a=some o):N a=none:=by
 cases z:N a with
 |none=>rfl
 |some u=>
  rcases x.new _ _ z with z|z
  ·rw[h]at z;cases z
  ·rw[h']at z;cases z
theorem tF {Y:Cx}(gu:Y.calm=true)(hE:∀x s,¬Y.xe x s)(hg:PG Y tg g)(xw:Ag Y.K nT jN g)(hc:JC Y l8 fc)(he:JE Y lS fe)(T:Turn Y.prog Y.w Y.K tg J fp it tn)(EI:∀i,i<nT->κ[i]? = some none)
  (J1:lJ Y.K J N1 am) (hsz:am.length<=sizeLine) (hD:H2 a=none) (Hx:∀H',(∀b∈fp,H' b=none)->∀b∈fp,iJ Y [] H' b)
  (hR:∀s4 σ' H' N vs,Inv Y [] σ' H' s4->Ext N1 N H2 H'->N a=none->H' a=some (.lst vs)->IsL Y.K N vs ds->R (.ok .next) s4) (h:CI Y tn fp N1 H2 κ a (dS jN fc fe κ) am ds s am.length):
  codeAny (model Y.prog Y.w) Y.A (.compLoop (.ListComp lS [⟨tg,bS,l8,0⟩] scope pos) 0 (.ref it) (.ref a) Y.env) R s:=by
 refine nk hE (λn s=>CI Y tn fp N1 H2 κ a (dS jN fc fe κ) am ds s n) (λn s' h=>?_) _ h;obtain⟨i,N,vs,es,r,σ',H',I',ti,hn,hi,rp,bT,x,FW,EJ,Ck,EK,er,FY⟩:=h;have sH:aO N1 H':=x.bn.trans x.nh;by_cases fH:i<am.length
 ·obtain⟨go,yl⟩:=(J1 i H' sH).1 am[i] (by simp[fH]);refine bY (T.item Y rfl rfl rfl gu i [] s' σ' H' Y.xe I' (Hx _ hn) ti go) λq s4 ⟨u,eu,hq⟩=>?_;subst eu;refine bY hq λ_ s5 ⟨xv,H5,I5,rx,y5,t5,Hk⟩=>?_;obtain⟨N5,x5,i5⟩:=yl xv H5 y5;obtain⟨x6,c5⟩:=x.both x5;have Jb:(join N N5) a=none:=x6.off FW EJ;have FZ:aO (join N N5) H5:=x6.nh;rw[List.drop_eq_getElem_cons fH]at er;unfold dS at er;obtain⟨ρ1,e1,er⟩:=oX er;obtain⟨b,e2,er⟩:=oX er;have g6:∀(s9:Shared)(σ9:St)(H9 N9:Hp)(EM:List V)(Ga r9:List D),Inv Y (jj fp s5.heap) σ9 H9 s9->dE Y.K N1 σ9 κ->κ.length=σ9.length->Ext N1 N9 H2 H9->N9 a=none->H9 a=some (.lst EM) ->
    EM.length<=i+1->IsL Y.K N9 EM Ga->dS jN fc fe κ (am.drop (i+1))=some r9->Ga++r9=ds->∃m,m<am.length - i/\CI Y tn fp N1 H2 κ a (dS jN fc fe κ) am ds s9 m:=λs9 σ9 H9 N9 EM Ga r9 I9 KZ l9 x9 n9 h9 v9 i9 La Lb=>
   ⟨_,by omega,i+1,N9,EM,Ga,r9,σ9,H9,I9.pins_of λp hp=>by simp at hp,T.keep _ _ _ t5 λb hb o e=>(I9.pin (b,o) (mY _ (ge hb e))).1,λb hb=>by
    obtain⟨o,e,d⟩:=T.obj _ _ t5 b hb;exact(I9.pin (b,o) (mY _ (ge hb e))).2.1,fH,KZ,l9,x9,n9,h9,v9,i9,La,Lb⟩
  refine bY (hg (jj fp s5.heap) s5 σ' H5 xv u (λσ6 H6=>H6=H5/\dE Y.K (join N N5) σ6 ρ1/\dE Y.K N1 σ6 κ/\κ.length=σ6.length) (I5.pinned (Hx _ Hk) (T.obj _ _ t5)) rx
   (xw (join N N5) H5 σ' κ ρ1 xv am[i] _ EI (rp.mono (x.bn.trans cU)) FZ (i5.mono c5) e1 bT λσ1 r1 r2 l1=>⟨rfl,r1,r2 N1 rp,l1⟩)) λ_ s6 ⟨σ6,H6,I6,eH,Jc,Jd,l6⟩=>?_
  subst eH;have Hy:H6 a=some (.lst vs):=x5.hh _ _ EJ;refine bY (hc _ s6 σ6 H6 (λc H7=>c=b/\aO H6 H7) I6 ⟨join N N5,ρ1,b,FZ,Jc,e2,λH7 h7=>⟨rfl,h7⟩⟩) λok s7 ⟨H7,I7,eb,h7⟩=>?_;subst eb;have x7:Ext N1 (join N N5) H2 H7:=(x.trans x6).trans (.grow FZ h7);cases ok with
  |false=>
   rw[if_neg (by decide)]at er ⊢;exact g6 s7 σ6 H7 (join N N5) vs es r I7 Jd l6 x7 Jb (h7 _ _ Hy) (Nat.le_succ_of_le Ck) (EK.mono cU) er FY
  |true=>
   rw[if_pos rfl]at er ⊢;obtain⟨y,e3,er⟩:=oX er;obtain⟨r',e4,er⟩:=oY er;subst er;refine bY (he _ s7 σ6 H7 (λv H8=>∃N8,Ext (join N N5) N8 H7 H8/\Is Y.K N8 v y.1) I7 ⟨join N N5,ρ1,y.1,y.2,FZ.trans h7,Jc,e3,λv H8 N8 x8 i8 _=>⟨N8,x8,i8⟩⟩) λw8 s8 ⟨v8,H8,I8,r8,N8,x8,i8⟩=>?_;refine bY (mf _ s8 σ6 H8 (.ref a) [v8] (.ref a) [w8] (λ_ H9=>H9=upd H8 a (.lst (vs++[v8]))) I8 rfl (.cons r8 .nil) ⟨_,vs,v8,rfl,rfl,x8.hh _ _ (h7 _ _ Hy),by omega,rfl⟩) λ_ s9 ⟨_,H9,I9,_,e9⟩=>?_;subst e9;have Je:=x8.off Jb (h7 _ _ Hy);exact g6 s9 σ6 _ N8 (vs++[v8]) (es++[y.1]) r' I9 Jd l6 ((x7.trans x8).upd hD Je) Je aw (by rw[uZ,List.length_singleton];omega) ((EK.mono (cU.trans x8.bn)).append (.cons i8 .nil)) e4 (by rw[List.append_assoc];exact FY)
 ·obtain rfl:i=am.length:=by omega
  rw[List.drop_eq_nil_of_le (vT _)]at er;cases er
  rw[uQ]at FY;subst FY;refine bY (T.done Y rfl rfl rfl gu am.length [] s' σ' H' Y.xe I' (Hx _ hn) ti ((J1 _ H' sH).2 (vT _))) λq s4 ⟨hq,I9⟩=>?_;subst hq;exact hR s4 σ' H' N vs I9 x FW EJ EK
theorem ky {X:Cx}(gu:X.calm=true){tg bS lS:Expr}{l8:List Expr}{scope:Scope}{pos:Pos}{cl:List (Str×Addr)}{N':List Str}{nT:Nat}{cap:List Nat}{jN:FG}{g:TG}{fc:FT}{fe:FE}
  (S:CompSc X scope cl) (cp:jg X N' scope cl nT cap)
  (hg:∀C s H fp,PG (fu X N' scope cl C s H fp) tg g) (xw:Ag X.K nT jN g) (hc:∀C s H fp,JC (fu X N' scope cl C s H fp) l8 fc) (he:∀C s H fp,JE (fu X N' scope cl C s H fp) lS fe)
  {ac:List (Addr×Obj)}{σ:St}{H2:Hp}{s2:Shared}{it:Addr}{fp:List Addr}{tn:Nat->Heap->Prop}{J:It}{N1:Hp}{ρ:Env}{am ds:List D}{E:Value->Shared->Prop}
  (I2:Inv X ac σ H2 s2) (T:Turn X.prog X.w X.K tg J fp it tn) (rj:tn 0 s2.heap) (f2:∀b∈fp,iJ X ac H2 b)
  (rep:dE X.K N1 σ ρ) (sN:aO N1 H2) (J1:lJ X.K J N1 am) (hsz:am.length<=sizeLine) (ec:dS jN fc fe (fm nT cap ρ) am=some ds) {RR:Value->Addr->Result->Shared->Prop}
  (Lc:∀(Dd C:Addr)(s':Shared)(H' N:Hp)(vs:List V)(m:Str->Option Value),H2 Dd=none->Inv X ac σ H' s'->s'.heap.Ns C m->iJ X ac H' C->Ext N1 N H2 H'->N Dd=some (.lst vs)->IsL X.K N vs ds->RR (.ref Dd) C (.ok .next) s'):
  wq X (newList []) (λjf s₃=>wq X (newFunctionEnv scope X.env.globals cl [] X.env.qual none .none (some X.env)) (λEN s₄=>
   codeAny (model X.prog X.w) X.A (.compStart (.ListComp lS [⟨tg,bS,l8,0⟩] scope pos) 0 (.ref it) jf { EN with scope:=relabel scope X.env }) (RR jf EN.locals) s₄) E s₃) E s2:=by
 refine wpAny_newObj_type (wpAny_newFunctionEnv S.nocell (by intro y hy;simp at hy) (λh₁ rm hsb₁=>?_) S.kind);dsimp only at rm hsb₁ ⊢;have hD:H2 s2.heap.objs.size=none:=I2.fresh;have I3:Inv X ac σ (upd H2 s2.heap.objs.size (.lst [])) { s2 with heap:=s2.heap.push { cls:=.type "list",dict:=none,data:=.seq ([]:List Value).toArray } }:=I2.lnew (t':=s2.toks) (ys:=[]) (its:=[]) .nil (uN _);generalize hH3:s2.heap.push { cls:=.type "list",dict:=none,data:=.seq ([]:List Value).toArray }=g3 at rm hsb₁ I3 ⊢;have hC:g3.objs.size=s2.heap.objs.size+1:=by rw[←hH3,Heap.size_push]
 have z8:∀b o,s2.heap.get? b=some o->g3.get? b=some o:=λb o e=>hH3 ▸ vZ _ e;have uw:∀b o,g3.get? b=some o->h₁.get? b=some o:=λb o e=>hsb₁.extBut b o (vS (vX e)) (vZ _ e);have CJ:∀b o,g3.get? b=some o->b≠g3.objs.size:=λb o e=>vS (vX e);have Jf:∀b∈fp,∃o,s2.heap.get? b=some o:=λb hb=>let ⟨o,e,_⟩:=T.obj 0 s2.heap rj b hb;⟨o,e⟩;have Ld:∀b∈fp,b≠s2.heap.objs.size:=λb hb=>let ⟨o,e⟩:=Jf b hb;vS (vX e);have Jg:∀b∈fp,b≠g3.objs.size:=λb hb=>let ⟨o,e⟩:=Jf b hb;CJ b o (z8 b o e);have Jh:∀x c,X.env.cells.lookup x=some c->c≠g3.objs.size:=λx c e=>by
  obtain⟨v,z⟩:=I3.cell x c e;exact vS z.lt
 have Le:(upd H2 s2.heap.objs.size (HO.lst [])) g3.objs.size=none:=I3.hok.fresh (vT _);have stk:∀b∈lC X.stack,∃o,s2.heap.get? b=some o:=λb hb=>by
  obtain⟨_,o,ho,_⟩:=(I2.stack).mem hb;exact⟨o,ho⟩
 -- the block's context
 let Y:Cx:=fu X N' scope cl g3.objs.size { s2 with heap:=g3 } (upd H2 s2.heap.objs.size (.lst [])) fp;have ok:Y.Ok:=by
  refine⟨I2.ok.mod,?_,I2.ok.glob,I2.ok.blt,vT _,λx y c e1 e2=>I2.ok.inj x y c (S.sub x c e1) (S.sub y c e2),λx h=>S.has x h,λx c h=>absurd h uX,I2.ok.hd,I2.ok.frames,.inl rfl,λb hb=>⟨Jg b hb,λx c e=>(f2 b hb).2.2.2.2.1 x c (S.sub x c e)⟩,λb o e=>?_,?_,λb o e hb=>?_,λb hb hz=>?_,I3.stack,λb hb=>I3.stkFree b hb⟩
  ·show(relabel scope X.env).kind=.function;exact S.kind
  ·exact I3.bs b o e
  ·exact vR I3.ok.bsz I3.sz
  ·have h1:=(f2 b hb).2.2.2.1;rcases h1 with z|z
   ·exact I2.ok.noex b o e z
   ·exact absurd (vQ (vX e) (vR I2.ok.bsz z)) (Nat.lt_irrefl _)
  ·rcases vP (I2.stkSub b hz)with z|z
   ·exact(f2 b hb).2.1 z
   ·exact(f2 b hb).2.2.1 z
 have I4:Inv Y [] (tE nT cap σ) (upd H2 s2.heap.objs.size (.lst [])) { s2 with heap:=h₁,toks:=s2.toks+([]:List (Str×Value)).length }:=by
  refine⟨ok,rfl,I2.bare,Un.kept uw,⟨_,rm,λj x v e1 e2 e3=>?_⟩,λx c e=>?_,Le,λx c e=>I3.freeC x c (S.sub x c e),λp hp=>absurd (show p∈[]from hp) List.not_mem_nil,I3.hok.kept uw,?_⟩
  ·obtain⟨k,i,rfl,h1,h2⟩:=rM e2;obtain⟨y,g1,g2,Ji,g4,g5⟩:=cp.get h1;have Jj:N'[nT+k]? = some x:=e1;rw[g1]at Jj;cases Jj;have Ht:σ[i]? = some (some v):=by
    cases q:σ[i]? with
    |none=>rw[q]at h2;cases h2
    |some z=>rw[q]at h2;have:z=some v:=h2;rw[this]
   obtain⟨m,_,hl⟩:=I3.loc;obtain⟨u,r,l⟩:=hl i _ v g2 Ht (Ji.elim (λz=>.inr (.inl z)) λz=>.inr (.inr z));refine⟨u,r,?_⟩;rcases l with⟨l,_⟩|⟨_,c,lc,ic⟩
   ·rcases Ji with z|z<;>(rw[z]at l;cases l)
   ·refine .inr ⟨g4,c,by show cl.lookup _=some c;rw[g5];exact lc,?_⟩;obtain⟨o,ho,hd⟩:=ic;exact⟨o,uw _ _ ho,hd⟩
  ·obtain⟨v,o,ho,hd⟩:=I3.cell x c (S.sub x c e);exact⟨v,o,uw _ _ ho,hd⟩
  ·show(tE nT cap σ).length=N'.length;unfold tE;rw[cp.len];simp
 have ut:∀s₃:Shared,s₃={ s2 with heap:=h₁,toks:=s2.toks+([]:List (Str×Value)).length }->codeAny (model Y.prog Y.w) Y.A (.compLoop (.ListComp lS [⟨tg,bS,l8,0⟩] scope pos) 0 (.ref it) (.ref s2.heap.objs.size) Y.env) (RR (.ref s2.heap.objs.size) g3.objs.size) s₃:=by
  rintro s₃ rfl;refine tF (Y:=Y) gu (λ_ _ z=>z) (hg _ _ _ _) xw (hc _ _ _ _) (he _ _ _ _) T (λi hi=>?_) J1 hsz hD (λH' hn b hb=>⟨hn b hb,Jg b hb,ok.exfs b hb,.inl hb,λx c e=>(f2 b hb).2.2.2.2.1 x c (S.sub x c e),λp hp=>absurd (show p∈[]from hp) List.not_mem_nil⟩) (λs4 σ' H' N vs I9 x FW EJ EK=>?_)
   ⟨0,N1,[],[],ds,tE nT cap σ,_,I4,T.keep _ _ _ rj λb hb o e=>uw _ _ (z8 _ _ e),λb hb=>?_,uN _,rep.caps,?_,(Ext.refl sN).upd hD (sN.free hD),sN.free hD,aw,uN _,.nil,by simpa using ec,rfl⟩
  ·unfold fm;rw[List.getElem?_append_left (by simpa using hi),List.getElem?_replicate,if_pos hi]
  ·obtain⟨m,hm,_⟩:=I9.loc;have k:aO N (upd N s2.heap.objs.size (.lst vs)):=λa o e=>by rw[au (λz=>by subst z;rw[FW]at e;cases e)];exact e
   refine Lc s2.heap.objs.size g3.objs.size s4 H' (upd N s2.heap.objs.size (.lst vs)) vs m hD (I2.call' (ch:=fp) I9.os ((Un.laid z8 (vT _) hD).trans I9.base) I9.hok I9.bare λb hb=>⟨(f2 b hb).2.2.2.1,(f2 b hb).2.1,(f2 b hb).2.2.2.2.1,(f2 b hb).2.2.2.2.2⟩) hm (I2.fpOk (by rw[hC];exact Nat.le_succ _) I9.free) ⟨x.hh,x.bn.trans k,λa o e=>?_,λa o e=>?_⟩ aw (EK.mono k)
   ·by_cases z:a=s2.heap.objs.size
    ·subst z;rw[aw]at e;cases e;exact EJ
    ·rw[au z]at e;exact x.nh _ _ e
   ·by_cases z:a=s2.heap.objs.size
    ·subst z;exact .inr hD
    ·rw[au z]at e;exact x.new _ _ e
  ·rw[au (Ld b hb)];exact(f2 b hb).1
  ·unfold fm tE;simp
 exact codeAny_compStart_list (ut _ rfl) (T.self _ 0 _ _ _ (T.keep _ _ _ rj λb hb o e=>uw _ _ (z8 _ _ e)) (ut _ rfl))
theorem y3 (gu:X.calm=true) 
  (S:CompSc X scope cl) (cp:jg X N' scope cl nT cap) (hi:JI X tg bS fi)
  (hg:∀C s H fp,PG (fu X N' scope cl C s H fp) tg g) (xw:Ag X.K nT jN g) (hc:∀C s H fp,JC (fu X N' scope cl C s H fp) l8 fc) (he:∀C s H fp,JE (fu X N' scope cl C s H fp) lS fe)
  (hs:∀x,foldedSetIterable bS X.env x=pure x:=by intro _;rfl):
  JE X (.ListComp lS [⟨tg,bS,l8,0⟩] scope pos) (bO fi nT cap jN fc fe):=by
 intro ac s σ H Q I h;obtain⟨B,ρ,d,b,sB,rep,e,q⟩:=h;obtain⟨am,ei,e⟩:=oX e;have hsz:am.length<=sizeLine:=Decidable.byContradiction λz=>by rw[if_neg z]at e;cases e
 rw[if_pos hsz]at e;obtain⟨ds,ec,e⟩:=oY e;cases e
 rw[eval_ListComp];refine wpAny_comprehension_free (use:=none) rfl hs S.clos S.kind S.names (bY (hi ac s σ H (λJ H2=>∃N1,Ext B N1 H H2/\lJ X.K J N1 am) I ⟨B,ρ,am,sB,rep,ei,λJ H2 N1 x1 j1=>⟨N1,x1,j1⟩⟩) λv s1 h1=>bY h1 λFQ s2 h2=>?_);obtain⟨it,fp,tn,J,H2,e,I2,T,rj,f2,N1,x1,j1⟩:=h2;subst e;refine ky gu S cp hg xw hc he I2 T rj f2 (rep.mono x1.bn) x1.nh j1 hsz ec (RR:=λjf C=>compPost (model X.prog X.w) X.A X.xe none (EP X ac σ Q) jf C) ?_;intro Dd C s' H' N vs m hD I' hm fC x hN hl;refine⟨m,hm,λh' hs'=>⟨.ref Dd,H',?_,rfl,q _ H' N (x1.trans x) (.lst (gb.of hN) hl) λ_=>⟨Dd,vs,ds,rfl,rfl,x1.hh.free hD,hN,hl⟩⟩⟩;obtain⟨c0,c1,c2,c3,c4,c5⟩:=fC;exact I'.turned (t':=s'.toks) (λb o hb e=>(hs'.2 b hb).trans e) c0 c1 c3 c4 c5
theorem y4 (gu:X.calm=true) 
  (hN:X.N.Nodup) (Hz:X.N[i]? = some y) (hy:X.env.kindOf y=some .local)
  (xz:swapsWith (.ListComp lS [⟨tg,bS,l8,0⟩] scope pos) (some (.Name y py)) spos.line X.env=pure true)
  (S:CompSc X scope cl) (cp:jg X N' scope cl nT cap) (hi:JI X tg bS fi)
  (hg:∀C s H fp,PG (fu X N' scope cl C s H fp) tg g) (xw:Ag X.K nT jN g) (hc:∀C s H fp,JC (fu X N' scope cl C s H fp) l8 fc) (he:∀C s H fp,JE (fu X N' scope cl C s H fp) lS fe)
  (hs:∀x,foldedSetIterable bS X.env x=pure x:=by intro _;rfl):
  JS X (.Assign [.Name y py] (.ListComp lS [⟨tg,bS,l8,0⟩] scope pos) spos) (bt i (bO fi nT cap jN fc fe)):=by
 intro ac s σ H E I h;have h2:uD (tD X.K (bO fi nT cap jN fc fe)) (iI i) E σ H:=nj h;obtain⟨B,ρ,d,b,sB,rep,e,q⟩:=h2;obtain⟨am,ei,e⟩:=oX e;have hsz:am.length<=sizeLine:=Decidable.byContradiction λz=>by rw[if_neg z]at e;cases e
 rw[if_pos hsz]at e;obtain⟨ds,ec,e⟩:=oY e;cases e
 rw[exec_Assign_Name_used _ _ _ _ xz];refine wX (wpAny_standAt (wX ?_));show wpAny _ _ (do let _ ←comprehension (.ListComp lS [⟨tg,bS,l8,0⟩] scope pos) scope X.env _ (newList []) false (eval bS X.env) (some (assign (.Name y py) X.env))) _ _ s;refine wX (wpAny_mono (wpAny_comprehension_free (use:=some (assign (.Name y py) X.env)) (Q:=λ_ s'=>SP X ac E .next s') rfl hs S.clos S.kind S.names
  (bY (hi ac s σ H (λJ H2=>∃N1,Ext B N1 H H2/\lJ X.K J N1 am) I ⟨B,ρ,am,sB,rep,ei,λJ H2 N1 x1 j1=>⟨N1,x1,j1⟩⟩) λv s1 h1=>bY h1 λFQ s2 h2=>?_)) (λ_ s' hq=>wY (wY hq)) λ_ _ e=>e)
 obtain⟨it,fp,tn,J,H2,e,I2,T,rj,f2,N1,x1,j1⟩:=h2;subst e;refine ky gu S cp hg xw hc he I2 T rj f2 (rep.mono x1.bn) x1.nh j1 hsz ec (RR:=λjf C=>compPost (model X.prog X.w) X.A X.xe (some (assign (.Name y py) X.env)) (λ_ s'=>SP X ac E .next s') jf C) ?_;intro Dd C s' H' N vs m hD I' hm fC x Jk hl;show wpAny _ _ (assign (.Name y py) X.env (.ref Dd)) _ _ s';obtain⟨c0,c1,c2,c3,c4,c5⟩:=fC;refine wpAny_assign_Name (lU I' hN Hz (.inl hy) (r:=show aI (.ref Dd) (.ref Dd)from rfl) (λs9 I9 ⟨a,sb,ha⟩=>?_) (.inr hy));have nC:C≠a:=by
  rcases ha with z|z
  ·rw[z];exact c1
  ·exact λw=>c4 y a z w.symm
 refine⟨m,hm.sameBut sb nC,λh' hs'=>⟨_,H',?_,q _ H' N (x1.trans x) (.lst (gb.of Jk) hl) λ_=>⟨Dd,vs,ds,rfl,rfl,x1.hh.free hD,Jk,hl⟩⟩⟩;exact I9.turned (t':=s9.toks) (λb o hb e=>(hs'.2 b hb).trans e) c0 c1 c3 c4 c5
section
variable {X:Cx}{a b c e:Expr}{pos:Pos}
theorem PE.to (h:PE X e t)(k:∀σ H Q,t' σ H Q->t σ H Q):PE X e t':=λac s σ H Q I q=>h ac s σ H Q I (k σ H Q q)
theorem PT.to (h:PT X e t)(k:∀σ H Q,t' σ H Q->t σ H Q):PT X e t':=λac s σ H Q I q=>h ac s σ H Q I (k σ H Q q)
theorem PW.to (h:PW X e t)(k:∀σ H Q,t' σ H Q->t σ H Q):PW X e t':=λwh ac s σ H Q I q=>h wh ac s σ H Q I (k σ H Q q)
theorem PA.to (h:PA X es t)(k:∀σ H Q,t' σ H Q->t σ H Q):PA X es t':=λpos ac s σ H Q I q=>h pos ac s σ H Q I (k σ H Q q)
theorem PS.to {st:Stmt}{t t':TS}(h:PS X st t)(k:∀E σ H,t' E σ H->t E σ H):PS X st t':=λac s σ H E I q=>h ac s σ H E I (k E σ H q)
theorem ki.to {st:List Stmt}{t t':TS}(h:ki X st t)(k:∀E σ H,t' E σ H->t E σ H):ki X st t':=λac s σ H E I q=>h ac s σ H E I (k E σ H q)
theorem PI.to (h:PI X tg it t)(k:∀σ H Q,t' σ H Q->t σ H Q):PI X tg it t':=λac s σ H Q I q=>h ac s σ H Q I (k σ H Q q)
theorem tG {K:Frag}{d:D}{v:V}(i:∀B,Is K B v d){σ:St}{H:Hp}{Q:VK}(h:tD K (fC d) σ H Q):tC v σ H Q:=by
 obtain⟨B,ρ,d',b,s,r,e,q⟩:=h;cases e
 exact q.one s (i B)
theorem ah (i:Nat)(hN:X.N[i]? = some x:=by rfl)(hv:xS X.env.scope x:=by first|exact Or.inl rfl|exact Or.inr (Or.inl rfl)|exact Or.inr (Or.inr rfl))(hd:(x == ("__debug__" : Str))=false:=by decide)
  (gt:(x == ("__classdict__" : Str))=false:=by decide):JE X (.Name x pos) (aj i):=PE.to (ci hN hv hd gt) λ_ _ _ h=>Bo h
theorem al:JE X (.Constant (.int i) j pos) (fC (.int i)):=PE.to AL λ_ _ _ h=>tG (λ_=>.int i) h
theorem eE:JE X (.Constant (.bool i) j pos) (fC (.bl i)):=PE.to u8 λ_ _ _ h=>tG (λ_=>.bl i) h
theorem eF:JE X (.Constant .none j pos) (fC .non):=PE.to u9 λ_ _ _ h=>tG (λ_=>.non) h
theorem av:JE X (.Constant (.str x) j pos) (fC (.str x)):=PE.to AM λ_ _ _ h=>tG (λ_=>.str x) h
theorem y6 (hg:Gl X x)(hm:X.mg x=some u)(r:aI v u)(i:∀B,Is X.K B v d)(hd:(x == ("__debug__" : Str))=false:=by decide):JE X (.Name x pos) (fC d):=PE.to (dX hg hm r hd) λ_ _ _ h=>tG i h
theorem ay (ho:cG X (binaryOp op) (rD X.K f))(ha:JE X a fa)(hb:JE X b fb):JE X (.BinOp a op b pos) (f2 f fa fb):=PE.to (zX ho ha hb) λ_ _ _ h=>yu h
theorem eG (ho:cG X (compareOp op) (rD X.K f))(ha:JE X a fa)(hb:JE X b fb)(hm:behindInMarks op b=false:=by first|exact iG _ (by decide) (by decide)|rfl):JE X (.Compare a [op] [b] pos) (f2 f fa fb):=PE.to (yc ho ha hb hm) λ_ _ _ h=>yu h
theorem nq {K:Frag}{f:FE}{σ:St}{H:Hp}{Q:Bool->Hp->Prop}(h:t7 K (bE f) σ H Q):tD K f σ H λx H'=>∃k,x=.bl k/\Q k H':=by
 obtain⟨B,ρ,c,s,r,e,q⟩:=h;unfold bE at e;split at e
 ·rename_i c' b' ef;cases e
  refine⟨B,ρ,.bl c,b',s,r,ef,λv H' N x i _=>?_⟩;cases i
  exact⟨c,rfl,q H' x.hh⟩
 ·cases e
theorem aL (ho:cG X (compareOp op) (rD X.K f))(ha:JE X a fa)(hb:JE X b fb)(hm:behindInMarks op b=false:=by first|exact iG _ (by decide) (by decide)|rfl):JT X (.Compare a [op] [b] pos) (bE (f2 f fa fb)) :=
 PT.to (rB ho ha hb hm) λ_ _ _ h=>yu (nq h)
theorem cm (h:JE X e f)(he:∀ie,isTrue e X.env ie=(do let v ←ie;standAt e.pos;holding [v] (truthy v)):=by intro _;rfl):JT X e (bE f):=PT.to (qh h he) λ_ _ _ q=>nq q
@[simp] noncomputable def eI (f g:D->D->OB)(fa fb fc:FE):FE:=λρ=>(fa ρ).bind λx=>(fb ρ).bind λy=>match f x.1 y.1 with
 |some (.bl true,_)=>(fc ρ).bind λz=>g y.1 z.1
 |some (.bl false,_)=>some (.bl false,false)
 |_=>none
theorem oA {K:Frag}{f g:D->D->OB}{fa fb fc:FE}{σ:St}{H:Hp}{Q:VK}(h:tD K (eI f g fa fb fc) σ H Q):qo (rD K f) (rD K g) (tD K fa) (tD K fb) (tD K fc) σ H Q:=by
 obtain⟨B,ρ,d,b,s,r,e,q⟩:=h;obtain⟨x,ex,e⟩:=oX e;obtain⟨y,ey,e⟩:=oX e;refine⟨B,ρ,x.1,x.2,s,r,ex,λv H1 N1 x1 i1 _=>⟨N1,ρ,y.1,y.2,x1.nh,r.mono x1.bn,ey,λv2 H2 N2 x2 i2 _=>?_⟩⟩;split at e
 ·rename_i b' ef;obtain⟨z,ez,e⟩:=oX e;refine⟨N2,x.1,y.1,.bl true,b',x2.nh,i1.mono x2.bn,i2,ef,λv3 H3 N3 x3 i3 _=>?_⟩;cases i3
  refine⟨true,rfl,?_⟩;rw[if_pos rfl];refine⟨N3,ρ,z.1,z.2,x3.nh,r.mono (x1.bn.trans (x2.bn.trans x3.bn)),ez,λv4 H4 N4 x4 i4 _=>⟨N4,y.1,z.1,d,b,x4.nh,i2.mono (x3.bn.trans x4.bn),i4,e,?_⟩⟩;exact q.into ((x1.trans x2).trans (x3.trans x4))
 ·rename_i b' ef;cases e
  refine⟨N2,x.1,y.1,.bl false,b',x2.nh,i1.mono x2.bn,i2,ef,λv3 H3 N3 x3 i3 _=>?_⟩;cases i3
  refine⟨false,rfl,?_⟩;rw[if_neg (by decide)];exact(q.into ((x1.trans x2).trans x3)).one x3.nh (.bl false)
 ·cases e
theorem oB (ho:cG X (compareOp op) (rD X.K f))(og:cG X (compareOp uu) (rD X.K g))(ha:JE X a fa)(hb:JE X b fb)(hc:JE X c fc)
  (hm:lastMarks [op,uu] [b,c]=false:=by with_unfolding_all rfl):JE X (.Compare a [op,uu] [b,c] pos) (eI f g fa fb fc):=PE.to (uE ho og ha hb hc hm) λ_ _ _ h=>oA h
theorem oC (ho:cG X (compareOp op) (rD X.K f))(og:cG X (compareOp uu) (rD X.K g))(ha:JE X a fa)(hb:JE X b fb)(hc:JE X c fc)
  (hm:lastMarks [op,uu] [b,c]=false:=by with_unfolding_all rfl):JT X (.Compare a [op,uu] [b,c] pos) (bE (eI f g fa fb fc)):=PT.to (uF ho og ha hb hc hm) λ_ _ _ h=>oA (nq h)
theorem y7 {K:Frag}{f g:FT}{σ:St}{H:Hp}{Q:Bool->Hp->Prop}(h:t7 K (dR f g) σ H Q):Dc (t7 K f) (t7 K g) σ H Q:=by
 obtain⟨B,ρ,c,s,r,e,q⟩:=h;unfold dR at e;cases ef:f ρ with
 |none=>rw[ef]at e;cases e
 |some k=>
  rw[ef]at e;refine⟨B,ρ,k,s,r,ef,λH1 h1=>?_⟩;cases k with
  |true=>rw[if_pos rfl];exact⟨B,ρ,c,s.trans h1,r,e,λH2 h2=>q H2 (h1.trans h2)⟩
  |false=>rw[if_neg (by decide)];cases e;exact q H1 h1
theorem Br {K:Frag}{f g:FT}{σ:St}{H:Hp}{Q:Bool->Hp->Prop}(h:t7 K (dP f g) σ H Q):Iu (t7 K f) (t7 K g) σ H Q:=by
 obtain⟨B,ρ,c,s,r,e,q⟩:=h;unfold dP at e;cases ef:f ρ with
 |none=>rw[ef]at e;cases e
 |some k=>
  rw[ef]at e;refine⟨B,ρ,k,s,r,ef,λH1 h1=>?_⟩;cases k with
  |false=>rw[if_neg (by decide)];exact⟨B,ρ,c,s.trans h1,r,e,λH2 h2=>q H2 (h1.trans h2)⟩
  |true=>rw[if_pos rfl];cases e;exact q H1 h1
theorem y8 {K:Frag}{f:FT}{σ:St}{H:Hp}{Q:Bool->Hp->Prop}(h:t7 K (da f) σ H Q):De (t7 K f) σ H Q:=by
 obtain⟨B,ρ,c,s,r,e,q⟩:=h;obtain⟨k,ek,e⟩:=oY e;subst e;exact⟨B,ρ,k,s,r,ek,λH1 h1=>q H1 h1⟩
variable {aA:List Expr}
theorem gg (ha:JT X a f):JW X (.BoolOp .And [a] pos) f:=xU ha
theorem eJ (ha:JT X a f):JW X (.BoolOp .Or [a] pos) f:=qi ha
theorem ik (ha:JT X a f)(hb:JW X (.BoolOp .And (b::aA) pos) g):JW X (.BoolOp .And (a::b::aA) pos) (dR f g):=PW.to (AR ha hb) λ_ _ _ h=>y7 h
theorem ft (ha:JT X a f)(hb:JW X (.BoolOp .Or (b::aA) pos) g):JW X (.BoolOp .Or (a::b::aA) pos) (dP f g):=PW.to (oo ha hb) λ_ _ _ h=>Br h
theorem gv (h:JW X e f):JT X e f:=h.pt
theorem cL (ha:JT X a f):JT X (.UnaryOp .Not a pos) (da f):=PT.to (mN ha) λ_ _ _ h=>y8 h
@[simp] noncomputable def jP (f g:FE):FE:=λρ=>match f ρ with|some (.bl true,_)=>g ρ|some (.bl false,_)=>some (.bl false,false)|_=>none
@[simp] noncomputable def Bs (f g:FE):FE:=λρ=>match f ρ with|some (.bl true,_)=>some (.bl true,false)|some (.bl false,_)=>g ρ|_=>none
@[simp] noncomputable def vj (f:FE):FE:=λρ=>match f ρ with|some (.bl c,_)=>some (.bl (!c),false)|_=>none
theorem gB (ha:JE X a f)(hb:JE X (.BoolOp .And (b::aA) pos) g):JE X (.BoolOp .And (a::b::aA) pos) (jP f g):=PE.to (mO ha hb) λσ H Q h=>by
 obtain⟨B,ρ,d,k,s,r,e,q⟩:=h;unfold jP at e;split at e
 ·rename_i b' ef;refine⟨B,ρ,_,_,s,r,ef,λv H1 N1 x1 i1 _=>?_⟩;cases i1
  refine⟨true,rfl,?_⟩;rw[if_pos rfl];exact⟨N1,ρ,d,k,x1.nh,r.mono x1.bn,e,q.into x1⟩
 ·rename_i b' ef;cases e
  refine⟨B,ρ,_,_,s,r,ef,λv H1 N1 x1 i1 _=>?_⟩;cases i1
  refine⟨false,rfl,?_⟩;rw[if_neg (by decide)];exact(q.into x1).one x1.nh (.bl false)
 ·cases e
theorem vk (ha:JE X a f)(hb:JE X (.BoolOp .Or (b::aA) pos) g):JE X (.BoolOp .Or (a::b::aA) pos) (Bs f g):=PE.to (Dg ha hb) λσ H Q h=>by
 obtain⟨B,ρ,d,k,s,r,e,q⟩:=h;unfold Bs at e;split at e
 ·rename_i b' ef;cases e
  refine⟨B,ρ,_,_,s,r,ef,λv H1 N1 x1 i1 _=>?_⟩;cases i1
  refine⟨true,rfl,?_⟩;rw[if_pos rfl];exact(q.into x1).one x1.nh (.bl true)
 ·rename_i b' ef;refine⟨B,ρ,_,_,s,r,ef,λv H1 N1 x1 i1 _=>?_⟩;cases i1
  refine⟨false,rfl,?_⟩;rw[if_neg (by decide)];exact⟨N1,ρ,d,k,x1.nh,r.mono x1.bn,e,q.into x1⟩
 ·cases e
theorem gh (h:JE X a f):JE X (.BoolOp op [a] pos) f:=qj h
theorem Bt (ha:JE X a f):JE X (.UnaryOp .Not a pos) (vj f):=PE.to (uB ha) λσ H Q h=>by
 obtain⟨B,ρ,d,k,s,r,e,q⟩:=h;unfold vj at e;split at e
 ·rename_i c b' ef;cases e
  refine⟨B,ρ,_,_,s,r,ef,λv H1 N1 x1 i1 _=>?_⟩;cases i1
  exact⟨c,rfl,(q.into x1).one x1.nh (.bl _)⟩
 ·cases e
variable {es:List Expr}
theorem ae:JA X [] af:=PA.to cT λ_ _ _ h=>yw h
theorem ag (ha:JE X e f)(hr:JA X es g)(hs:starEach (e::es) X.env=(false,eval e X.env)::starEach es X.env:=by rfl):JA X (e::es) (aa f g):=PA.to (bJ ha hr hs) λ_ _ _ h=>va h
@[simp] noncomputable def aB:List D->OB:=λds=>if ds.length<=sizeLine then some (.tup ds,false)else none
@[simp] noncomputable def bA:List D->OB:=λds=>if ds.length<=sizeLine then some (.lst ds,true)else none
theorem aG {x1}(h:JA X es f):JE X (.Tuple es x1 pos) (fA aB f):=PE.to (Bb h) λσ H Q q=>by
 obtain⟨B,ρ,ds,s,r,e,k⟩:=yv q;refine⟨B,ρ,ds,s,r,e,λvs H1 N1 x1 i1=>?_⟩;obtain⟨B2,Jl,d,b,s2,i2,e2,k2⟩:=k vs H1 N1 x1 i1;unfold aB at e2;split at e2
 ·rename_i hz;cases e2
  refine⟨by rw[i2.length];exact hz,λp hp=>k2 _ _ (upd B2 p (.tup vs)) (.laid s2 hp) (.tup (gc.of aw) (i2.mono (Ext.laid s2 hp).bn)) (by simp)⟩
 ·cases e2
theorem bR (h:JA X es f):JE X (.List es pos) (fA bA f):=PE.to (Bc h) λσ H Q q=>by
 obtain⟨B,ρ,ds,s,r,e,k⟩:=yv q;refine⟨B,ρ,ds,s,r,e,λvs H1 N1 x1 i1=>?_⟩;obtain⟨B2,Jl,d,b,s2,i2,e2,k2⟩:=k vs H1 N1 x1 i1;unfold bA at e2;split at e2
 ·rename_i hz;cases e2
  refine⟨by rw[i2.length];exact hz,λp hp=>k2 _ _ (upd B2 p (.lst vs)) (.laid s2 hp) (.lst (gb.of aw) (i2.mono (Ext.laid s2 hp).bn)) λ_=>⟨p,vs,Jl,rfl,rfl,hp,aw,i2.mono (Ext.laid s2 hp).bn⟩⟩
 ·cases e2
end
section
variable {X:Cx}
theorem gC (h:cG X f r)(k:∀x y H Q,r' x y H Q->r x y H Q):cG X f r':=λac s σ H x y v u Q I rx ry q=>h ac s σ H x y v u Q I rx ry (k x y H Q q)
noncomputable def xJ (f g:D->D->OB):D->D->OB:=λx y=>match f x y with|some r=>some r|none=>g x y
theorem kz (h:cG X s (rD X.K f))(h':cG X s (rD X.K g)):cG X s (rD X.K (xJ f g)):=by
 intro ac st σ H x y v u Q I rx ry q;obtain⟨B,dx,dy,d,b,sB,ix,iy,e,q⟩:=q;unfold xJ at e;split at e
 ·rename_i r ef;cases e
  exact h ac st σ H x y v u Q I rx ry ⟨B,dx,dy,_,_,sB,ix,iy,ef,q⟩
 ·exact h' ac st σ H x y v u Q I rx ry ⟨B,dx,dy,_,_,sB,ix,iy,e,q⟩
@[simp] noncomputable def q9 (C:Int->Int->Bool)(g:Int->Int->D):D->D->OB
 |.int i,.int j=>if C i j=true then some (g i j,false)else none
 |_,_=>none
theorem nr (h:cG X s (rI C g))(hC:∀i j,C' i j=true->C i j)(hg:∀i j B,Is X.K B (g i j) (g' i j)):cG X s (rD X.K (q9 C' g')):=by
 refine gC h λx y H Q q=>?_;obtain⟨B,dx,dy,d,b,sB,ix,iy,e,q⟩:=q;cases ix<;>try (cases e;done)
 cases iy<;>try (cases e;done)
 rename_i i j;simp only[q9]at e;split at e
 ·rename_i hc;cases e
  exact⟨i,j,rfl,rfl,hC i j hc,q.one sB (hg i j B)⟩
 ·cases e
theorem fP (h:cG X s (xX g))(hg:∀i j B,Is X.K B (g i j) (g' i j)):cG X s (rD X.K (q9 (λ_ _=>true) g')):=by
 refine gC h λx y H Q q=>?_;obtain⟨B,dx,dy,d,b,sB,ix,iy,e,q⟩:=q;cases ix<;>try (cases e;done)
 cases iy<;>try (cases e;done)
 rename_i i j;simp only[q9,if_true]at e;cases e
 exact⟨i,j,rfl,rfl,q.one sB (hg i j B)⟩
abbrev Bu:D->D->OB:=q9 (λ_ _=>true) λi j=>.int (i+j)
abbrev lK:D->D->OB:=q9 (λ_ _=>true) λi j=>.int (i - j)
abbrev DE:D->D->OB:=q9 (λi j=>decide ((-18446744073709551616<i/\i<18446744073709551616)∨(-18446744073709551616<j/\j<18446744073709551616))) λi j=>.int (i*j)
abbrev im:D->D->OB:=q9 (λ_ j=>decide (0<j/\j<1073741824)) λi j=>.int (i / j)
abbrev bu:D->D->OB:=q9 (λ_ j=>decide (0<j)) λi j=>.int (i % j)
abbrev IF:D->D->OB:=q9 (λ_ _=>true) λi j=>.bl (decide (i<j))
abbrev GB:D->D->OB:=q9 (λ_ _=>true) λi j=>.bl (decide (i<=j))
abbrev F8:D->D->OB:=q9 (λ_ _=>true) λi j=>.bl (decide (j<i))
abbrev IG:D->D->OB:=q9 (λ_ _=>true) λi j=>.bl (decide (j<=i))
theorem DF:cG X (binaryOp .Add) (rD X.K Bu):=fP AW λ_ _ _=>.int _
theorem rN:cG X (binaryOp .Sub) (rD X.K lK):=fP AX λ_ _ _=>.int _
theorem DG:cG X (binaryOp .Mult) (rD X.K DE):=nr AY (λi j h=>by have h:=of_decide_eq_true h;unfold xZ;omega) λ_ _ _=>.int _
theorem gD:cG X (binaryOp .FloorDiv) (rD X.K im):=nr ya (λi j h=>by have h:=of_decide_eq_true h;unfold Dv;omega) λ_ _ _=>.int _
theorem bP:cG X (binaryOp .Mod) (rD X.K bu):=nr AZ (λ_ _ h=>of_decide_eq_true h) λ_ _ _=>.int _
theorem GC:cG X (compareOp .Lt) (rD X.K IF):=fP Dw λ_ _ _=>.bl _
theorem GD:cG X (compareOp .LtE) (rD X.K GB):=fP Dx λ_ _ _=>.bl _
theorem DH:cG X (compareOp .Gt) (rD X.K F8):=fP Dy λ_ _ _=>.bl _
theorem GF:cG X (compareOp .GtE) (rD X.K IG):=fP Dz λ_ _ _=>.bl _
@[simp] noncomputable def C8 (C:Str->Str->Bool)(g:Str->Str->D):D->D->OB
 |.str i,.str j=>if C i j=true then some (g i j,false)else none
 |_,_=>none
abbrev y9:D->D->OB:=C8 (λi j=>decide (i.length+j.length<=sizeLine)) λi j=>.str (i++j)
abbrev F9:D->D->OB:=C8 (λ_ _=>true) λi j=>.bl (!decide (j.cps.toList<i.cps.toList))
theorem Bv:cG X (binaryOp .Add) (rD X.K y9):=by
 refine gC qp λx y H Q q=>?_;obtain⟨B,dx,dy,d,b,sB,ix,iy,e,q⟩:=q;cases ix<;>try (cases e;done)
 cases iy<;>try (cases e;done)
 rename_i i j;simp only[y9,C8]at e;split at e
 ·rename_i hc;cases e
  exact⟨i,j,rfl,rfl,of_decide_eq_true hc,q.one sB (.str _)⟩
 ·cases e
theorem DI:cG X (compareOp .LtE) (rD X.K F9):=by
 intro ac s σ H x y v u Q I rx ry q;obtain⟨B,dx,dy,d,b,sB,ix,iy,e,q⟩:=q;cases ix<;>try (cases e;done)
 cases iy<;>try (cases e;done)
 rename_i i j;simp only[F9,C8,if_true]at e;cases e
 obtain⟨t,rfl⟩:=rx;obtain⟨t',rfl⟩:=ry;exact PySem.P.le_str ⟨.bl _,H,I,rfl,q.one sB (.bl _)⟩
end
section
variable {X:Cx}{a b c e:Expr}{pos:Pos}{st:Stmt}{aA:List Stmt}
theorem fz:nZ X [] aU:=ki.to iH λ_ _ _ h=>o6 h
theorem ao (h1:JS X st g)(h2:nZ X aA h):nZ X (st::aA) (aD g h):=ki.to (eA h1 h2) λ_ _ _ q=>rK q
theorem cz (h1:JS X st g):nZ X [st] g:=dF h1
theorem gE {c:Expr}{a b:List Stmt}{fc:FT}{g h:FS}(hc:JT X c fc)(ha:nZ X a g)(hb:nZ X b h):JS X (.If c a b pos) (dj fc g h):=PS.to (lV hc ha hb) λ_ _ _ q=>vf q
theorem vm (he:JE X e f):JS X (.Return (some e) pos) (aX f):=PS.to (ig he) λ_ _ _ q=>rL q
theorem nu (i:Nat)(hN:X.N[i]? = some x:=by rfl)(hv:xS X.env.scope x:=by first|exact Or.inl rfl|exact Or.inr (Or.inl rfl)|exact Or.inr (Or.inr rfl))(hd:(x == ("__debug__" : Str))=false:=by decide)
  (gt:(x == ("__classdict__" : Str))=false:=by decide):JS X (.Return (some (.Name x p)) pos) (j6 i):=PS.to (ig (ci hN hv hd gt)) λ_ _ _ q=>vg q
theorem bq (hN:X.N.Nodup)(he:JE X e f)(hi:X.N[i]? = some x:=by rfl)(hx:zQ X.env.scope x:=by first|exact Or.inl rfl|exact Or.inr rfl)(hs:swapsWith e (some (.Name x p)) pos.line X.env=pure false:=by rfl)
  (hf:X.fn x=true∨X.env.scope.names.lookup x=some .local:=by first|exact .inl rfl|exact .inr rfl):JS X (.Assign [.Name x p] e pos) (bt i f):=PS.to (mQ hN hi hx he hs hf) λ_ _ _ q=>nj q
theorem Bw (hp:PassesOwn (model X.prog X.w) X.A X.env X.xe)(hc:X.calm=true)(hi:JI X tg bS fi)(hg:PG X tg t)(ht:yy X.K jN t)(hb:nZ X body g)
  (hs:∀x,foldedSetIterable bS X.env x=pure x:=by intro _;rfl):JS X (.For tg bS body [] pos) (t8 fi jN g):=PS.to (qm hp hc hi hg hb hs) λ_ _ _ q=>yz ht q
theorem yA (hp:PassesOwn (model X.prog X.w) X.A X.env X.xe)(hc:X.calm=true)(hi:PI X tg bS (C6 X.K fi))(hg:PG X tg t)(ht:yy X.K jN t)(hb:nZ X body g)
  (hs:∀x,foldedSetIterable bS X.env x=pure x:=by intro _;rfl):JS X (.For tg bS body [] pos) (fO fi jN g):=PS.to (qm hp hc hi hg hb hs) λ_ _ _ q=>o8 ht q
theorem qA (he:JE X e f)(hN:X.N[i]? = some x:=by rfl)(hv:xS X.env.scope x:=by first|exact Or.inl rfl|exact Or.inr (Or.inl rfl)|exact Or.inr (Or.inr rfl))(hd:(x == ("__debug__" : Str))=false:=by decide)
  (gt:(x == ("__classdict__" : Str))=false:=by decide)
  (l5:attributeBase (.Name x p) "append" X.env (eval (.Name x p) X.env)=eval (.Name x p) X.env:=by rfl)
  (rl:((backTo cY (starEach [e] X.env)).all (λx=>!x.1) && (backToKw cY (keywordEach [] X.env)).all (λx=>x.1.isSome)
   && decide ([e].length+([]:List Keyword).length+(if([]:List Keyword).isEmpty then 0 else 1)<30))=true:=by rfl)
  (l7:(gX.endLine == cY.line)=true:=by rfl) (hs:starEach [e] X.env=[(false,eval e X.env)]:=by rfl) (xz:swapsWith (.Call (.Attribute (.Name x p) "append" gX) [e] [] cY) none pos.line X.env=pure false:=by rfl):
  JS X (.Expr (.Call (.Attribute (.Name x p) "append" gX) [e] [] cY) pos) (ni i f):=by
 refine PS.to (r6 (uS PySem.F.plainAttrs_list PySem.F.slot_list_append PySem.F.type_list_append mf (ci hN hv hd gt) (bJ he cT hs) l5 rl l7 hs rfl) xz) λE σ H q=>?_;obtain⟨a,us,h1,h2,k⟩:=yx q;exact⟨_,h1,.inl ⟨rfl,us,gb.of h2⟩,k⟩
end
@[simp] noncomputable def aZ (g:FS)(n k:Nat):List D->OB:=λds=>if ds.length=n then
 match g (ds.map (λd=>some (d,false))++List.replicate k none) with
 |some (.rt d b)=>some (d,b)
 |some (.nx _)=>some (.non,false)
 |_=>none
 else none
def xK (K:Frag)(f:List D->OB):Sp:=λvs H Q _=>∃(B:Hp)(ds:List D)(d:D)(b:Bool),(aO B H/\Tb K B)/\IsL K B vs ds/\f ds=some (d,b)/\Fin K B H d b Q
theorem kA {K:Frag}{B H:Hp}{vs:List V}{ds:List D}{N:List Str}(sB:aO B H)(tb:Tb K B)(i:IsL K B vs ds):dh K B H B H (L2.cZ N vs) (ds.map (λd=>some (d,false))++List.replicate (N.length - vs.length) none):=by
 have nf:∀(j:Nat)(d:D)(b:Bool),(ds.map (λd=>some (d,false))++List.replicate (N.length - vs.length) none:Env)[j]? = some (some (d,b))->b=false/\ds[j]? = some d:=λj d b e=>by
  by_cases hj:j<ds.length
  ·rw[List.getElem?_append_left (by simpa using hj),vA]at e;obtain⟨d',h1,h2⟩:=oY e;cases h2
   exact⟨rfl,h1⟩
  ·rw[List.getElem?_append_right (by simpa using Nat.not_lt.mp hj),List.getElem?_replicate]at e;split at e<;>cases e
 have no:∀a,¬own (L2.cZ N vs) (ds.map (λd=>some (d,false))++List.replicate (N.length - vs.length) none) a:=λa ⟨j,d,h,_⟩=>by
  obtain⟨z,_⟩:=nf j d true h;cases z
 refine⟨sB,tb,.refl sB,?_,λj d e=>?_,λj d e=>?_,λj k a d e h=>?_⟩
 ·unfold L2.cZ;rw[uZ,uZ,vH,vH,List.length_replicate,List.length_replicate,i.length]
 ·obtain⟨_,e1⟩:=nf j d false e;obtain⟨v,h1,h2⟩:=i.get e1;refine⟨v,?_,h2.mono λa o e=>by rw[cj (no a)];exact e⟩;unfold L2.cZ;have hj:j<vs.length:=(vV h1).1;rw[List.getElem?_append_left (by simpa using hj),vA,h1]<;>rfl
 ·obtain⟨z,_⟩:=nf j d true e;cases z
 ·obtain⟨z,_⟩:=nf j d true h;cases z
section
variable {P:Program}{w:World}{K:Frag}{mg:Str->Option Value}{base:Heap}
theorem DJ {x qual:Str}{st:Stmt}{f:Addr}{fd:FuncData}{N ps:List Str}{k:Nat}{g:FS}(F:xN K x qual st f fd)(S:FnScope N ps (ar st))
  (hb:∀(bM:Value)(A:Around)(outer:List PySem.Env)(s:Shared)(H:Hp)(E:XK),cE k (A.deeper (envOfC qual (ar st) s.heap.objs.size f bM))->nZ (eC kq P w K mg base N qual (ar st) f bM A outer s H E).nox (ba st) g):
  fg P w K mg base kq (k+1) f fd ps (xK K (aZ g ps.length (N.length - ps.length))):=by
 have len:∀vs H Q E,xK K (aZ g ps.length (N.length - ps.length)) vs H Q E->vs.length=ps.length:=λvs H Q E h=>by
  obtain⟨B,ds,d,b,sB,i,e,q⟩:=h;unfold aZ at e;split at e
  ·rename_i hl;rw[i.length];exact hl
  ·cases e
 refine F.ok S len λbM A outer s H vs Q E hr h=>⟨_,hb bM A outer s H E hr,?_⟩;have bT:=len vs H Q E h;obtain⟨B,ds,d,b,sB,i,e,q⟩:=h;unfold aZ at e;rw[if_pos (by rw[←i.length];exact bT)]at e;have s0:=kA (N:=N) sB.1 sB.2 i;rw[bT]at s0;split at e
 ·rename_i d' b' eg;cases e
  exact⟨B,H,_,_,⟨B,s0⟩,eg,λv H' N' x' i' f'=>q v H' N' x' i' f'⟩
 ·rename_i ρ' eg;cases e
  exact⟨B,H,_,_,⟨B,s0⟩,eg,λσ' H' ⟨N',s'⟩=>q .non H' N' s'.ext .non (by simp)⟩
 ·cases e
structure Fn (P:Program)(w:World)(K:Frag)(mg:Str->Option Value)(base:Heap)(k:Nat)(x:Str)(f:List D->OB):Prop where
 ex:∃(ad:Addr)(fd:FuncData)(ps:List Str),fg P w K mg base kq k ad fd ps (xK K f)/\mg x=some (.ref ad)/\PySem.W.keepIn K (.ref ad)=true/\eB K fd ps []
theorem Fn.eq (F:Fn P w K mg base k x f)(h:∀ds r,f' ds=some r->f ds=some r):Fn P w K mg base k x f':=by
 obtain⟨ad,fd,ps,F1,h2⟩:=F.ex;exact⟨ad,fd,ps,F1.imp λvs H Q E ⟨B,ds,d,b,sB,i,e,q⟩=>⟨B,ds,d,b,sB,i,h _ _ e,q⟩,h2⟩
end
theorem rO (F:Fn X.prog X.w X.K X.mg X.base k x f)(hr:cE k X.A)(ha:JA X (e::es) fa)(hg:Gl X x:=by rfl)
  (ly:(x == ("__debug__" : Str))=false:=by decide) (he:starEach (e::es) X.env=(false,eval e X.env)::starEach es X.env:=by rfl) (hpl:(backTo pos (starEach es X.env)).any (·.1)=false:=by rfl):
  JE X (.Call (.Name x p) (e::es) [] pos) (fA f fa):=by
 obtain⟨ad,fd,ps,F1,hm,hk,hb⟩:=F.ex;refine PE.to (rE F1 hr hg hm hk hb .nil Ac ha ly he hpl) λσ H Q q=>?_;obtain⟨B,ρ,d,b,s,r,e,q⟩:=q;obtain⟨ds,ex,e⟩:=oX e;exact⟨B,ρ,ds,s,r,ex,λvs H1 N1 x1 i1=>by
  show xK X.K f (vs++[]) H1 Q _;rw[uQ];exact⟨N1,ds,d,b,⟨x1.nh,r.tb.mono x1.bn⟩,i1,e,q.into x1⟩⟩
mutual
@[simp] def cF:D->D->Bool
 |.non,.non=>true
 |.bl a,.bl b=>a == b
 |.bl a,.int b=>decide ((if a then 1 else 0)=b)
 |.int a,.bl b=>decide (a=(if b then 1 else 0))
 |.int a,.int b=>decide (a=b)
 |.str a,.str b=>decide (a=b)
 |.tup xs,.tup ys=>gw xs ys
 |.lst xs,.lst ys=>gw xs ys
 |_,_=>false
@[simp] def gw:List D->List D->Bool
 |[],[]=>true
 |x::xs,y::ys=>cF x y && gw xs ys
 |_,_=>false
end
@[simp] theorem oE (a:Str)(b:Str):cF (.str a) (.str b)=decide (a=b):=by simp only[cF]
@[simp] noncomputable def aM:Nat->D->Bool
 |_,.non=>true
 |_,.bl _=>true
 |_,.int _=>true
 |_,.str _=>true
 |_,.ty _=>false
 |_,.dk _ _=>false
 |_,.dt _ _=>false
 |0,.tup _=>false
 |0,.lst _=>false
 |n+1,.tup ds=>ds.all (aM n)
 |n+1,.lst ds=>ds.all (aM n)
theorem oF:∀ {xs ys:List D},gw xs ys=true->xs.length=ys.length
 |[],[],_=>rfl
 |x::xs,y::ys,h=>by
  simp only[gw,vC]at h;rw[vD,vD,oF h.2]
 |[],_::_,h=>by simp[gw]at h
 |_::_,[],h=>by simp[gw]at h
theorem rP (h:xs.length≠ys.length):gw xs ys=false:=by
 cases e:gw xs ys with
 |false=>rfl
 |true=>exact absurd (oF e) h
theorem io (f:Nat->Bool):∀ {xs ys:List D},xs.length=ys.length->(∀(j:Nat) x y,xs[j]? = some x->ys[j]? = some y->f j=cF x y)->(List.range xs.length).all f=gw xs ys
 |[],[],_,_=>by simp[gw]
 |x::xs,y::ys,hl,h=>by
  have e:=io (λj=>f (j+1)) (xs:=xs) (ys:=ys) (by simpa using hl) λj a b h1 h2=>h (j+1) a b (by simpa using h1) (by simpa using h2);rw[vD,List.range_succ_eq_map,List.all_cons,List.all_map,gw,←h 0 x y rfl rfl,←e];rfl
 |[],_::_,hl,_=>by simp at hl
 |_::_,[],hl,_=>by simp at hl
section
variable {X:Cx}{ac:List (Addr×Obj)}{σ:St}{H:Hp}{s:Shared}
theorem rQ (I:Inv X ac σ H s)(h1:gc X.K H a vs)(h2:gb X.K H a ws):False:=by
 obtain⟨its,_,⟨o,e,c,_⟩,_⟩:=I.tuple h1;obtain⟨its',_,⟨o',n',e',c',_⟩,_⟩:=I.list h2;rw[e]at e';cases e';rw[c]at c';injection c' with z;exact absurd z (by decide)
theorem rR (I:Inv X ac σ H s)(e:s.heap.get? a=some o)(d:o.data=.seq its n):(∀b9 ob,H a≠some (.dK b9 ob))/\∀b9,H a≠some (.dT b9):=by
 refine⟨λb9 ob h=>?_,λb9 h=>?_⟩
 ·obtain⟨_,_,_,_,_,o',es,ep,e',_,d',_⟩:=(show bD X.prog X.w H s.heap a (.dK b9 ob)from I.hok a _ h);rw[e]at e';cases e';rw[d]at d';cases d'
 ·obtain⟨_,_,_,_,o',es,ep,e',_,d',_⟩:=(show bD X.prog X.w H s.heap a (.dT b9)from I.hok a _ h);rw[e]at e';cases e';rw[d]at d';cases d'
theorem oG (I:Inv X ac σ H s)(h1:gc X.K H a vs):(∀b9 ob,H a≠some (.dK b9 ob))/\∀b9,H a≠some (.dT b9):=by
 obtain⟨its,_,⟨o,e,c,n,d⟩,_⟩:=I.tuple h1;exact rR I e d
theorem oH (I:Inv X ac σ H s)(h1:gb X.K H a vs):(∀b9 ob,H a≠some (.dK b9 ob))/\∀b9,H a≠some (.dT b9):=by
 obtain⟨its,_,p,_⟩:=I.list h1;obtain⟨o,e,c,n,d⟩:=p.isList;exact rR I e d
theorem rS (I:Inv X ac σ H s):∀(n:Nat){v:V}{d d':D},Is X.K H v d->Is X.K H v d'->aM n d=true->cF d d'=true:=by
 have lists:∀ {p:D->Bool}(ih:∀ {v:V}{d d':D},Is X.K H v d->Is X.K H v d'->p d=true->cF d d'=true) {vs:List V}{ds z7:List D},IsL X.K H vs ds->IsL X.K H vs z7->ds.all p=true->gw ds z7=true:=by
  intro p ih vs;induction vs with
  |nil=>intro ds z7 h h' _;cases h;cases h';simp[gw]
  |cons v vs Lf=>
   intro ds z7 h h' hp;cases h with
   |cons h1 h2=>
    cases h' with
    |cons h3 h4=>
     rw[List.all_cons,vC]at hp;rw[gw,ih h1 h3 hp.1,Lf h2 h4 hp.2];rfl
 intro n;induction n with
 |zero=>
  intro v d d' h h' hp;cases h<;>cases h'<;>first|(simp[aM]at hp;done)|simp[cF]
 |succ n ih=>
  intro v d d' h h' hp;cases h with
  |tup h1 h2=>
   cases h' with
   |tup h3 h4=>
    rw[I.tuple_inj h3 h1]at h4;rw[cF];exact lists ih h2 h4 (by simpa [aM]using hp)
   |lst h3 h4=>exact(rQ I h1 h3).elim
   |dk h3 _ _=>exact((oG I h1).1 _ _ h3).elim
   |dt h3 _ _=>exact((oG I h1).2 _ h3).elim
  |lst h1 h2=>
   cases h' with
   |lst h3 h4=>
    rw[I.list_inj h3 h1]at h4;rw[cF];exact lists ih h2 h4 (by simpa [aM]using hp)
   |tup h3 h4=>exact(rQ I h3 h1).elim
   |dk h3 _ _=>exact((oH I h1).1 _ _ h3).elim
   |dt h3 _ _=>exact((oH I h1).2 _ h3).elim
  |ty=>simp[aM]at hp
  |dk=>simp[aM]at hp
  |dt=>simp[aM]at hp
  |_=>cases h'<;>simp[cF]
theorem Ah {α:Type}{p:α->Bool}{l:List α}{j:Nat}{x:α}(h:l.all p=true)(e:l[j]? = some x):p x=true:=uR h x (List.mem_of_getElem? e)
theorem oJ {A:Around}{p:D->Bool}(ih:∀ {v1 v2:V}{d1 d2:D}{u1 u2:Value},p d1=true->p d2=true->Is X.K H v1 d1->Is X.K H v2 d2->aI v1 u1->aI v2 u2->SeqAt.EqAt A s u1 u2 (cF d1 d2))
  {vs ws:List V}{ds es:List D}{its lT:List Value}(i1:IsL X.K H vs ds) (i2:IsL X.K H ws es) (r1:aT vs its) (r2:aT ws lT) (p1:ds.all p=true) (p2:es.all p=true):
  ∀j (h1:j<its.toArray.size) (h2:j<lT.toArray.size),SeqAt.EqAt A s its.toArray[j] lT.toArray[j] (cF (ds.getD j .non) (es.getD j .non)):=by
 intro j h1 h2;rw[vG]at h1 h2;have l1:=r1.length;have l2:=r2.length;have l3:=i1.length;have l4:=i2.length;have hv:j<vs.length:=by omega
 have hw:j<ws.length:=by omega
 have hd:j<ds.length:=by omega
 have he:j<es.length:=by omega
 obtain⟨u,e1,q1⟩:=r1.get (i:=j) (x:=vs[j]) (by simp[hv]);obtain⟨u',e2,q2⟩:=r2.get (i:=j) (x:=ws[j]) (by simp[hw]);obtain⟨v,e3,q3⟩:=i1.get (i:=j) (d:=ds[j]) (by simp[hd]);obtain⟨w,e4,q4⟩:=i2.get (i:=j) (d:=es[j]) (by simp[he]);have a1:its.toArray[j]=u:=by have z:=(vV e1).2;simpa using z
 have a2:lT.toArray[j]=u':=by have z:=(vV e2).2;simpa using z
 have a3:vs[j]=v:=by simpa [hv]using e3
 have a4:ws[j]=w:=by simpa [hw]using e4
 have a5:ds.getD j .non=ds[j]:=by simp[List.getD,hd]
 have a6:es.getD j .non=es[j]:=by simp[List.getD,he]
 rw[a1,a2,a5,a6];exact ih (Ah p1 (j:=j) (by simp[hd])) (Ah p2 (j:=j) (by simp[he])) (a3 ▸ q3) (a4 ▸ q4) q1 q2
theorem rT {xs ys:List D}(j:Nat)(x y:D)(h1:xs[j]? = some x)(h2:ys[j]? = some y):cF (xs.getD j .non) (ys.getD j .non)=cF x y:=by
 simp[List.getD,h1,h2]
abbrev GG (A:Around)(s:Shared)(u1 u2:Value)(b:Bool):Prop:=SeqAt.RcAt A s u1 u2 b/\SeqAt.EqAt A s u1 u2 b/\SeqAt.RcNeAt A s u1 u2 (!b)
theorem rU {a1 a2:Addr}(rc:SeqAt.RcAt A s (.ref a1) (.ref a2) b)(rn:SeqAt.RcNeAt A s (.ref a1) (.ref a2) (!b))(h:a1=a2->b=true):GG A s (.ref a1) (.ref a2) b:=by
 refine⟨rc,?_,rn⟩;by_cases ha:a1=a2
 ·subst ha;rw[h rfl];exact SeqAt.EqAt.same _
 ·exact SeqAt.EqAt.of_refs ha rc
theorem oK (p1:aM 0 d1=true)(p2:aM 0 d2=true)(i1:Is X.K H v1 d1)(i2:Is X.K H v2 d2)(r1:aI v1 u1)(r2:aI v2 u2):GG A s u1 u2 (cF d1 d2):=by
 cases i1 with
 |non=>
  cases r1
  cases i2 with
  |non=>cases r2;rw[cF];exact⟨.none_none,.same _,.none_none⟩
  |bl b=>cases r2;simp only[cF];exact⟨.none_bool _,.none_bool _,.none_bool _⟩
  |int b=>obtain⟨t',rfl⟩:=r2;simp only[cF];exact⟨.none_int _ _,.none_int _ _,.none_int _ _⟩
  |str b=>obtain⟨t',rfl⟩:=r2;simp only[cF];exact⟨.none_str _ _,.none_str _ _,.none_str _ _⟩
  |_=>simp at p2
 |bl a=>
  cases r1
  cases i2 with
  |non=>cases r2;simp only[cF];exact⟨.bool_none _,.bool_none _,.bool_none _⟩
  |bl b=>cases r2;rw[cF];exact⟨.bool_bool _ _,.bool_bool _ _,.bool_bool _ _⟩
  |int b=>obtain⟨t',rfl⟩:=r2;rw[cF,←Bool.beq_eq_decide_eq];exact⟨.bool_int _ _ _,.bool_int _ _ _,.bool_int _ _ _⟩
  |str b=>obtain⟨t',rfl⟩:=r2;simp only[cF];exact⟨.bool_str _ _ _,.bool_str _ _ _,.bool_str _ _ _⟩
  |_=>simp at p2
 |int a=>
  obtain⟨t,rfl⟩:=r1;cases i2 with
  |non=>cases r2;simp only[cF];exact⟨.int_none _ _,.int_none _ _,.int_none _ _⟩
  |bl b=>cases r2;rw[cF,←Bool.beq_eq_decide_eq];exact⟨.int_bool _ _ _,.int_bool _ _ _,.int_bool _ _ _⟩
  |int b=>obtain⟨t',rfl⟩:=r2;rw[cF,←Bool.beq_eq_decide_eq];exact⟨.int_int _ _ _ _,.int_int _ _ _ _,.int_int _ _ _ _⟩
  |str b=>obtain⟨t',rfl⟩:=r2;simp only[cF];exact⟨.int_str _ _ _ _,.int_str _ _ _ _,.int_str _ _ _ _⟩
  |_=>simp at p2
 |str a=>
  obtain⟨t,rfl⟩:=r1;cases i2 with
  |non=>cases r2;simp only[cF];exact⟨.str_none _ _,.str_none _ _,.str_none _ _⟩
  |bl b=>cases r2;simp only[cF];exact⟨.str_bool _ _ _,.str_bool _ _ _,.str_bool _ _ _⟩
  |int b=>obtain⟨t',rfl⟩:=r2;simp only[cF];exact⟨.str_int _ _ _ _,.str_int _ _ _ _,.str_int _ _ _ _⟩
  |str b=>obtain⟨t',rfl⟩:=r2;rw[cF,←Bool.beq_eq_decide_eq];exact⟨.str_str _ _ _ _,.str_str _ _ _ _,.str_str _ _ _ _⟩
  |_=>simp at p2
 |_=>simp at p1
theorem Ai (I:Inv X ac σ H s):∀(n:Nat){A:Around}{v1 v2:V}{d1 d2:D}{u1 u2:Value},A.units+n<cLine->aM n d1=true->aM n d2=true->Is X.K H v1 d1->Is X.K H v2 d2->aI v1 u1->aI v2 u2->GG A s u1 u2 (cF d1 d2):=by
 intro n;induction n with
 |zero=>exact λ_ p1 p2 i1 i2 r1 r2=>oK p1 p2 i1 i2 r1 r2
 |succ n ih=>
  intro A v1 v2 d1 d2 u1 u2 hu p1 p2 i1 i2 r1 r2;have di:A.units<cLine:=by omega
  have EG:∀ {v1 v2:V}{d1 d2:D}{u1 u2:Value},aM n d1=true->aM n d2=true->Is X.K H v1 d1->Is X.K H v2 d2->aI v1 u1->aI v2 u2->SeqAt.EqAt A.in1 s u1 u2 (cF d1 d2):=λp1 p2 i1 i2 r1 r2=>(ih (A:=A.in1) (by show A.units+1+n<cLine;omega) p1 p2 i1 i2 r1 r2).2.1;by_cases f2:aM 0 d2=true
  ·by_cases f1:aM 0 d1=true
   ·exact oK f1 f2 i1 i2 r1 r2
   ·cases i1 with
    |tup h1 k1=>
     cases r1
     obtain⟨its,z9,t1,z1⟩:=I.tuple h1;cases i2 with
     |non=>cases r2;simp only[cF];exact⟨.tuple_none t1 di,.tuple_none t1 di,.tuple_none t1 di⟩
     |bl=>cases r2;simp only[cF];exact⟨.tuple_bool _ t1 di,.tuple_bool _ t1 di,.tuple_bool _ t1 di⟩
     |int=>obtain⟨t,rfl⟩:=r2;simp only[cF];exact⟨.tuple_int _ _ t1 di,.tuple_int _ _ t1 di,.tuple_int _ _ t1 di⟩
     |str=>obtain⟨t,rfl⟩:=r2;simp only[cF];exact⟨.tuple_str _ _ t1 di,.tuple_str _ _ t1 di,.tuple_str _ _ t1 di⟩
     |_=>simp at f2
    |lst h1 k1=>
     cases r1
     obtain⟨its,z9,t1,z1⟩:=I.list h1;replace t1:=t1.isList;cases i2 with
     |non=>cases r2;simp only[cF];exact⟨.list_none t1 di,.list_none t1 di,.list_none t1 di⟩
     |bl=>cases r2;simp only[cF];exact⟨.list_bool _ t1 di,.list_bool _ t1 di,.list_bool _ t1 di⟩
     |int=>obtain⟨t,rfl⟩:=r2;simp only[cF];exact⟨.list_int _ _ t1 di,.list_int _ _ t1 di,.list_int _ _ t1 di⟩
     |str=>obtain⟨t,rfl⟩:=r2;simp only[cF];exact⟨.list_str _ _ t1 di,.list_str _ _ t1 di,.list_str _ _ t1 di⟩
     |_=>simp at f2
    |_=>simp at f1 p1
  ·cases i2 with
   |tup h2 k2=>
    cases r2
    obtain⟨lT,EO,t2,z2⟩:=I.tuple h2;cases i1 with
    |tup h1 k1=>
     cases r1
     obtain⟨its,z9,t1,z1⟩:=I.tuple h1;rename_i a2 ws es a1 vs ds;have he:=oJ (A:=A.in1) (p:=aM n) EG k1 k2 z9 EO (by simpa using p1) (by simpa using p2);have HA:((List.range (min its.toArray.size lT.toArray.size)).all (λj=>cF (ds.getD j .non) (es.getD j .non)) && its.toArray.size == lT.toArray.size)=cF (.tup ds) (.tup es):=by
      rw[cF,vG,vG,←z9.length,←EO.length,k1.length,k2.length];by_cases hl:ds.length=es.length
      ·rw[←hl,Nat.min_self,beq_self_eq_true,Bool.and_true];exact io _ hl λj x y e1 e2=>rT j x y e1 e2
      ·rw[rP hl,beq_eq_false_iff_ne.mpr hl,Bool.and_false]
     have rc:=SeqAt.RcAt.tuples t1 t2 di he;have rn:=SeqAt.RcNeAt.tuples t1 t2 di he;rw[HA]at rc rn;exact rU rc rn λe=>by subst e;exact rS I (n+1) (.tup h1 k1) (.tup h2 k2) p1
    |lst h1 k1=>cases r1;obtain⟨its,z9,t1,z1⟩:=I.list h1;simp only[cF];exact⟨.list_tuple t1.isList t2 di,.list_tuple t1.isList t2 di,.list_tuple t1.isList t2 di⟩
    |non=>cases r1;simp only[cF];exact⟨.none_tuple t2 di,.none_tuple t2 di,.none_tuple t2 di⟩
    |bl=>cases r1;simp only[cF];exact⟨.bool_tuple _ t2 di,.bool_tuple _ t2 di,.bool_tuple _ t2 di⟩
    |int=>obtain⟨t,rfl⟩:=r1;simp only[cF];exact⟨.int_tuple _ _ t2 di,.int_tuple _ _ t2 di,.int_tuple _ _ t2 di⟩
    |str=>obtain⟨t,rfl⟩:=r1;simp only[cF];exact⟨.str_tuple _ _ t2 di,.str_tuple _ _ t2 di,.str_tuple _ _ t2 di⟩
    |_=>simp at p1
   |lst h2 k2=>
    cases r2
    obtain⟨lT,EO,t2,z2⟩:=I.list h2;replace t2:=t2.isList;cases i1 with
    |lst h1 k1=>
     cases r1
     obtain⟨its,z9,t1,z1⟩:=I.list h1;replace t1:=t1.isList;rename_i a2 ws es a1 vs ds;have he:=oJ (A:=A.in1) (p:=aM n) EG k1 k2 z9 EO (by simpa using p1) (by simpa using p2);have both:SeqAt.RcAt A s (.ref a1) (.ref a2) (cF (.lst ds) (.lst es))/\SeqAt.RcNeAt A s (.ref a1) (.ref a2) (!cF (.lst ds) (.lst es)):=by
      have hz:its.toArray.size=ds.length/\lT.toArray.size=es.length:=by rw[vG,vG,←z9.length,←EO.length,k1.length,k2.length];exact⟨rfl,rfl⟩
      by_cases hl:ds.length=es.length
      ·have HA:(List.range its.toArray.size).all (λj=>cF (ds.getD j .non) (es.getD j .non))=cF (.lst ds) (.lst es):=by
        rw[cF,hz.1];exact io _ hl λj x y e1 e2=>rT j x y e1 e2
       have hs:=(hz.1.trans hl).trans hz.2.symm;have rc:=SeqAt.RcAt.lists t1 t2 hs di he;have rn:=SeqAt.RcNeAt.lists t1 t2 hs di he;rw[HA]at rc rn;exact⟨rc,rn⟩
      ·have hs:(its.toArray.size != lT.toArray.size)=true:=by rw[hz.1,hz.2];exact bne_iff_ne.mpr hl
       rw[cF,rP hl];exact⟨.lists_lengths t1 t2 hs di,.lists_lengths t1 t2 hs di⟩
     exact rU both.1 both.2 λe=>by subst e;exact rS I (n+1) (.lst h1 k1) (.lst h2 k2) p1
    |tup h1 k1=>cases r1;obtain⟨its,z9,t1,z1⟩:=I.tuple h1;simp only[cF];exact⟨.tuple_list t1 t2 di,.tuple_list t1 t2 di,.tuple_list t1 t2 di⟩
    |non=>cases r1;simp only[cF];exact⟨.none_list t2 di,.none_list t2 di,.none_list t2 di⟩
    |bl=>cases r1;simp only[cF];exact⟨.bool_list _ t2 di,.bool_list _ t2 di,.bool_list _ t2 di⟩
    |int=>obtain⟨t,rfl⟩:=r1;simp only[cF];exact⟨.int_list _ _ t2 di,.int_list _ _ t2 di,.int_list _ _ t2 di⟩
    |str=>obtain⟨t,rfl⟩:=r1;simp only[cF];exact⟨.str_list _ _ t2 di,.str_list _ _ t2 di,.str_list _ _ t2 di⟩
    |_=>simp at p1
   |_=>simp at f2 p2
@[simp] def dg:D->D->OB:=λx y=>if aM 40 x=true/\aM 40 y=true then some (.bl (cF x y),false)else none
@[simp] def yB:D->D->OB:=λx y=>if aM 40 x=true/\aM 40 y=true then some (.bl (!cF x y),false)else none
theorem cV (hu:X.A.units+40<cLine):cG X (compareOp .Eq) (rD X.K dg):=by
 intro ac s σ H x y v u Q I rx ry q;obtain⟨B,dx,dy,d,b,sB,ix,iy,e,q⟩:=q;unfold dg at e;split at e
 ·rename_i hp;cases e
  exact(Ai I 40 hu hp.1 hp.2 (ix.mono sB) (iy.mono sB) rx ry).1 _ _ _ _ ⟨.bl _,H,I,rfl,q.one sB (.bl _)⟩
 ·cases e
theorem vn (hu:X.A.units+40<cLine):cG X (compareOp .NotEq) (rD X.K yB):=by
 intro ac s σ H x y v u Q I rx ry q;obtain⟨B,dx,dy,d,b,sB,ix,iy,e,q⟩:=q;unfold yB at e;split at e
 ·rename_i hp;cases e
  exact(Ai I 40 hu hp.1 hp.2 (ix.mono sB) (iy.mono sB) rx ry).2.2 _ _ _ _ ⟨.bl _,H,I,rfl,q.one sB (.bl _)⟩
 ·cases e
end
section
variable {X:Cx}{a b e:Expr}{pos:Pos}
theorem rV {K:Frag}{H:Hp}{vs:List V}{ds:List D}{i:Int}{d:D}(h:IsL K H vs ds)(e:md ds i=some d):∃v,md vs i=some v/\Is K H v d:=by
 unfold md at e ⊢;rw[h.length];cases q:Ab ds.length i with
 |none=>rw[q]at e;cases e
 |some j=>rw[q]at e;exact h.get e
@[simp] def cJ:D->D->OB
 |.lst ds,.int i=>(md ds i).map λd=>(d,false)
 |.tup ds,.int i=>(md ds i).map λd=>(d,false)
 |.str z,.int i=>if z.length<=sizeLine then (md z.cps.toList i).map λc=>(.str ⟨#[c]⟩,false)else none
 |_,_=>none
theorem GH:uK X (rD X.K cJ):=by
 intro value slice ac s σ H x y v u Q I rx ry q hs;obtain⟨B,dx,dy,d,b,sB,ix,iy,e,q⟩:=q;cases ix<;>try (cases e;done)
 all_goals (cases iy<;>try (cases e;done))
 ·simp only[cJ]at e;split at e
  ·rename_i hz;obtain⟨c,e1,e2⟩:=oY e;cases e2
   exact uO value slice ac s σ H _ _ v u Q I rx ry ⟨_,_,c,rfl,rfl,hz,e1,q.one sB (.str _)⟩ hs
  ·cases e
 ·rename_i h hl i;simp only[cJ]at e;obtain⟨c,e1,e2⟩:=oY e;cases e2
  obtain⟨w,h1,h2⟩:=rV hl e1;exact uM value slice ac s σ H _ _ v u Q I rx ry ⟨_,_,_,w,rfl,rfl,bg sB h,h1,q.one sB h2⟩ hs
 ·rename_i h hl i;simp only[cJ]at e;obtain⟨c,e1,e2⟩:=oY e;cases e2
  obtain⟨w,h1,h2⟩:=rV hl e1;exact yn value slice ac s σ H _ _ v u Q I rx ry ⟨_,_,_,w,rfl,rfl,sB.seq h,h1,q.one sB h2⟩ hs
theorem cK (ha:JE X a fa)(hb:JE X b fb)(hs:jX b:=by intro _ _;rfl):JE X (.Subscript a b pos) (f2 cJ fa fb):=PE.to (uL GH ha hb hs) λ_ _ _ h=>yu h
abbrev FO:=Env->Option (Option Int)
def Kk (K:Frag)(f:FO):TO:=λσ H Q=>∃(B:Hp)(ρ:Env)(o:Option Int),aO B H/\dE K B σ ρ/\f ρ=some o/\∀H',aO H H'->Q o H'
abbrev JO (X:Cx)(e:Option Expr)(f:FO):Prop:=PO X e (Kk X.K f)
@[simp] noncomputable def bQ:FO:=λ_=>some none
@[simp] noncomputable def bK (f:FE):FO:=λρ=>match f ρ with|some (.int i,_)=>some (some i)|_=>none
theorem ce:JO X none bQ:=λac s σ H Q I h=>yh ac s σ H Q I (by
 obtain⟨B,ρ,o,sB,r,e,q⟩:=h;cases e
 exact q H (.refl H))
theorem cf (h:JE X e f):JO X (some e) (bK f):=λac s σ H Q I q=>yi h ac s σ H Q I (by
 obtain⟨B,ρ,o,sB,r,e,q⟩:=q;unfold bK at e;split at e
 ·rename_i i b' ef;cases e
  refine⟨B,ρ,_,_,sB,r,ef,λv H1 N1 x1 i1 _=>?_⟩;cases i1
  exact⟨i,rfl,q H1 x1.hh⟩
 ·cases e)
def jQ (ds:List D)(lo hi:Option Int):List D:=(ds.drop (HT.c7 ds.length 0 lo)).take (HT.c7 ds.length ds.length hi - HT.c7 ds.length 0 lo)
theorem nv {K:Frag}{H:Hp}{vs:List V}{ds:List D}{lo hi:Option Int}(h:IsL K H vs ds):IsL K H (lG vs lo hi) (jQ ds lo hi):=by
 unfold lG jQ;rw[h.length];exact(h.drop _).take _
theorem bN.to (h:bN X f r)(k:∀xs H Q,r' xs H Q->r xs H Q):bN X f r':=λac s σ H xs us Q I rs q=>h ac s σ H xs us Q I rs (k xs H Q q)
variable {es:List Expr}{x:Str}{p:Pos}{id T:String}
theorem ax (hc:bN X (.builtin id) (yt X.K f))(hm:X.mg x=none)(hv:bootBuiltins x=some (.builtin id))(ha:JA X (e::es) fa)(hg:Gl X x:=by rfl)(hn:x ≠ "__name__":=by decide)(ly:(x == ("__debug__" : Str))=false:=by decide)
  (he:starEach (e::es) X.env=(false,eval e X.env)::starEach es X.env:=by rfl) (hpl:(backTo pos (starEach es X.env)).any (·.1)=false:=by rfl):JE X (.Call (.Name x p) (e::es) [] pos) (fA f fa):=PE.to (fK hc hg hm hv ha hn ly he hpl) λ_ _ _ h=>yv h
theorem gU (hc:bN X (.type T) (yt X.K f))(hm:X.mg x=none)(hv:bootBuiltins x=some (.type T))(ha:JA X (e::es) fa)(hg:Gl X x:=by rfl)(hn:x ≠ "__name__":=by decide)(ly:(x == ("__debug__" : Str))=false:=by decide)
  (he:starEach (e::es) X.env=(false,eval e X.env)::starEach es X.env:=by rfl) (hpl:(backTo pos (starEach es X.env)).any (·.1)=false:=by rfl):JE X (.Call (.Name x p) (e::es) [] pos) (fA f fa):=PE.to (jk hc hg hm hv ha hn ly he hpl) λ_ _ _ h=>yv h
@[simp] noncomputable def cb:List D->OB
 |[.lst ds]=>some (.int ds.length,false)
 |[.tup ds]=>some (.int ds.length,false)
 |[.str z]=>if z.length<=sizeLine then some (.int z.length,false)else none
 |_=>none
theorem db:bN X (.builtin "len") (yt X.K cb):=by
 refine bN.to (bN.or mU mV) λxs H Q q=>?_;obtain⟨B,ds,d,b,sB,i,e,q⟩:=q;cases i with
 |nil=>simp[cb]at e
 |cons i1 i2=>
  cases i2 with
  |cons _ _=>cases i1<;>simp[cb]at e
  |nil=>
   cases i1<;>try (simp[cb]at e;done)
   ·simp only[cb]at e;split at e
    ·rename_i hz;cases e
     exact .inr ⟨_,rfl,hz,q.one sB (.int _)⟩
    ·cases e
   ·rename_i h hl;simp only[cb]at e;cases e
    refine .inl ⟨_,_,rfl,.inr (bg sB h),?_⟩;rw[hl.length];exact q.one sB (.int _)
   ·rename_i h hl;simp only[cb]at e;cases e
    refine .inl ⟨_,_,rfl,.inl (sB.seq h),?_⟩;rw[hl.length];exact q.one sB (.int _)
theorem dn (hm:X.mg x=none)(hv:bootBuiltins x=some (.type n))(hg:Gl X x:=by rfl)(hn:x ≠ "__name__":=by decide)(hd:(x == ("__debug__" : Str))=false:=by decide):JE X (.Name x pos) (fC (.ty n)) :=
 PE.to (jW hg hm hv (v:=.ty n) rfl hn hd) λ_ _ _ h=>tG (λ_=>.ty n) h
end
theorem By (hr:cE k A):A.units+40<cLine:=by have:=hr.un;omega
section
variable {X:Cx}{a b e:Expr}{pos:Pos}{x:Str}{p:Pos}
theorem c8 (h:∃u v,X.mg x=some u/\aI v u/\∀B,Is X.K B v d)(hg:Gl X x:=by rfl)(hd:(x == ("__debug__" : Str))=false:=by decide):JE X (.Name x pos) (fC d):=by
 obtain⟨u,v,hm,r,i⟩:=h;exact y6 hg hm r i hd
@[simp] noncomputable def rW:D->D->OB
 |.int i,.int j=>some (.int (i+j),false)
 |.str i,.str j=>if i.length+j.length<=sizeLine then some (.str (i++j),false)else none
 |_,_=>none
theorem yC:cG X (binaryOp .Add) (rD X.K rW):=by
 refine gC (r:=rD X.K (xJ Bu y9)) (kz DF Bv) λx y H Q q=>?_;obtain⟨B,dx,dy,d,b,sB,ix,iy,e,q⟩:=q;refine⟨B,dx,dy,d,b,sB,ix,iy,?_,q⟩;cases dx<;>try (cases e;done)
 all_goals (cases dy<;>try (cases e;done))
 all_goals (simp[rW]at e;simp[xJ,Bu,y9,q9,C8,e])
@[simp] def qB:D->D->OB:=DE
theorem kB:cG X (binaryOp .Mult) (rD X.K qB):=DG
@[simp] def DK:D->D->OB:=IF
theorem rX:cG X (compareOp .Lt) (rD X.K DK):=GC
@[simp] noncomputable def mm:D->D->OB
 |.int i,.int j=>some (.bl (decide (i<=j)),false)
 |.str i,.str j=>some (.bl (!decide (j.cps.toList<i.cps.toList)),false)
 |_,_=>none
theorem gZ:cG X (compareOp .LtE) (rD X.K mm):=by
 refine gC (r:=rD X.K (xJ GB F9)) (kz GD DI) λx y H Q q=>?_;obtain⟨B,dx,dy,d,b,sB,ix,iy,e,q⟩:=q;refine⟨B,dx,dy,d,b,sB,ix,iy,?_,q⟩;cases dx<;>try (cases e;done)
 all_goals (cases dy<;>try (cases e;done))
 all_goals (simp[mm]at e;simp[xJ,GB,F9,q9,C8,e])
@[simp] noncomputable def ny:D->D->Option Bool
 |.non,.non=>some true
 |_,.non=>some false
 |.bl a,.bl b=>some (a == b)
 |_,.bl _=>some false
 |_,_=>none
@[simp] def FC:D->D->OB:=λx y=>(ny x y).map λb=>(.bl b,false)
@[simp] def nA:D->D->OB:=λx y=>(ny x y).map λb=>(.bl (!b),false)
theorem rY {K:Frag}{B:Hp}{x y:V}{v u:Value}{dx dy:D}{k:Bool}(ix:Is K B x dx)(iy:Is K B y dy)(rx:aI x v)(ry:aI y u)(e:ny dx dy=some k):plainIs v u=true/\(v == u)=k:=by
 cases iy<;>(first|(cases dx<;>simp[ny]at e;done)|skip)
 all_goals (cases ix)
 all_goals (first|(obtain⟨t,rfl⟩:=rx)|cases rx)
 all_goals (cases ry)
 all_goals (simp only[ny,Option.some.injEq]at e;subst e)
 all_goals (first|exact⟨rfl,rfl⟩|skip)
 all_goals (rename_i c d;cases c<;>cases d<;>exact⟨rfl,rfl⟩)
theorem Bz:cG X (compareOp .Is) (rD X.K FC):=by
 intro ac s σ H x y v u Q I rx ry q;obtain⟨B,dx,dy,d,b,sB,ix,iy,e,q⟩:=q;obtain⟨k,ek,e⟩:=oY e;cases e
 obtain⟨h1,h2⟩:=rY ix iy rx ry ek;refine wpAny_is_plain h1 ⟨.bl k,H,I,by rw[h2];rfl,q.one sB (.bl _)⟩
theorem yD:cG X (compareOp .IsNot) (rD X.K nA):=by
 intro ac s σ H x y v u Q I rx ry q;obtain⟨B,dx,dy,d,b,sB,ix,iy,e,q⟩:=q;obtain⟨k,ek,e⟩:=oY e;cases e
 obtain⟨h1,h2⟩:=rY ix iy rx ry ek;refine wpAny_isNot_plain h1 ⟨.bl (!k),H,I,by rw[h2];rfl,q.one sB (.bl _)⟩
@[simp] noncomputable def eK:D->Bool
 |.non=>true|.bl _=>true|.int _=>true|.str _=>true
 |_=>false
noncomputable def Aj (x:D)(ds:List D):Bool:=ds.any λy=>cF y x
@[simp] noncomputable def gn:D->Option (List D)
 |.lst ds=>some ds
 |.tup ds=>some ds
 |_=>none
@[simp] def B1:D->D->OB:=λx y=>(gn y).bind λds=>if eK x=true/\ds.all eK=true then some (.bl (Aj x ds),false)else none
theorem qC {K:Frag}{B:Hp}{v:V}{d:D}(i:Is K B v d)(h:eK d=true):gY v=true:=by
 cases i<;>first|rfl|(simp[eK]at h)
theorem GI {K:Frag}{B:Hp}{v w:V}{d e:D}(i:Is K B v d)(j:Is K B w e)(h:eK d=true)(h':eK e=true):xI v w=cF d e:=by
 cases i<;>(first|(simp[eK]at h;done)|skip)
 all_goals (cases j<;>(first|(simp[eK]at h';done)|skip))
 all_goals (simp only[xI,cF,Bool.beq_eq_decide_eq])
theorem vo {K:Frag}{B:Hp}:∀ {vs:List V}{ds:List D},IsL K B vs ds->ds.all eK=true->vs.all gY=true
 |_,_,.nil,_=>rfl
 |_,_,.cons i t,h=>by
  rw[List.all_cons,vC]at h;rw[List.all_cons,qC i h.1,vo t h.2];rfl
theorem B3 {K:Frag}{B:Hp}{v:V}{d:D}(j:Is K B v d)(hd:eK d=true):∀ {vs:List V}{ds:List D},IsL K B vs ds->ds.all eK=true->F7 v vs=Aj d ds
 |_,_,.nil,_=>rfl
 |_,_,.cons i t,h=>by
  rw[List.all_cons,vC]at h;have e:=B3 j hd t h.2;unfold F7 Aj at *;rw[List.any_cons,List.any_cons,e,GI i j h.1 hd]
theorem vp:cG X (compareOp .In) (rD X.K B1):=by
 refine gC tu λx y H Q q=>?_;obtain⟨B,dx,dy,d,b,sB,ix,iy,e,q⟩:=q;obtain⟨ds,es,e⟩:=oX e;split at e
 ·rename_i hf;cases e
  cases iy<;>simp only[gn]at es<;>try (cases es;done)
  ·rename_i h hl;cases es
   exact⟨_,_,rfl,.inr (bg sB h),qC ix hf.1,vo hl hf.2,by rw[if_neg (by decide),B3 ix hf.1 hl hf.2];exact q.one sB (.bl _)⟩
  ·rename_i h hl;cases es
   exact⟨_,_,rfl,.inl (sB.seq h),qC ix hf.1,vo hl hf.2,by rw[if_neg (by decide),B3 ix hf.1 hl hf.2];exact q.one sB (.bl _)⟩
 ·cases e
theorem cP:bootBuiltins "len" = some (.builtin "len"):=PySem.boot_len
theorem aJ:bootBuiltins "isinstance" = some (.builtin "isinstance"):=by decide +kernel
theorem DM:bootBuiltins "min" = some (.builtin "min"):=by decide +kernel
theorem oM:bootBuiltins "all" = some (.builtin "all"):=by decide +kernel
theorem DN:bootBuiltins "int" = some (.type "int"):=by decide +kernel
theorem B4:bootBuiltins "bool" = some (.type "bool"):=by decide +kernel
theorem vq:bootBuiltins "str" = some (.type "str"):=by decide +kernel
theorem ip:bootBuiltins "list" = some (.type "list"):=by decide +kernel
theorem cQ:bootBuiltins "tuple" = some (.type "tuple"):=by decide +kernel
@[simp] noncomputable def Kl:List D->OB
 |[.int i,.int j]=>some (.int (if j > i then j else i),false)
 |_=>none
@[simp] noncomputable def yE:List D->OB
 |[.int i,.int j]=>some (.int (if j<i then j else i),false)
 |_=>none
theorem vt {K:Frag}{B:Hp}{xs:List V}{i j:Int}(h:IsL K B xs [.int i,.int j]):xs=[.int i,.int j]:=by
 cases h with
 |cons h1 h2=>cases h1;cases h2 with|cons h3 h4=>cases h3;cases h4;rfl
theorem DO (hc:X.calm=true:=by rfl):bN X (.builtin "min") (yt X.K yE):=by
 refine bN.to (tm hc) λxs H Q q=>?_;obtain⟨B,ds,d,b,sB,i,e,q⟩:=q;match ds,e with
 |[.int i',.int j'],e=>simp only[yE]at e;cases e;exact⟨i',j',vt i,q.one sB (.int _)⟩
@[simp] noncomputable def eM:D->String
 |.non=>"NoneType" | .bl _=>"bool" | .int _=>"int" | .str _=>"str" | .ty _=>"type" | .tup _=>"tuple" | .lst _=>"list" | .dk _ _=>"dict" | .dt _ _=>"dict"
@[simp] noncomputable def yF:D->Bool
 |.ty _=>true
 |_=>false
@[simp] noncomputable def rZ (t n:String):OB :=
 if n = "int" then some (.bl (t == "int" || t == "bool"),false)else if n = "bool" then some (.bl (t == "bool"),false)else if n = "str" then some (.bl (t == "str"),false)
 else if n = "list" then some (.bl (t == "list"),false)else if n = "tuple" then some (.bl (t == "tuple"),false)else none
@[simp] def aC:List D->OB
 |[d,.ty n]=>if yF d=true then none else rZ (eM d) n
 |_=>none
theorem yG {ac:List (Addr×Obj)}{σ:St}{H:Hp}{s:Shared}{A:Around}{E:Value->Shared->Prop}{Q:Value->Shared->Prop}{c:Value}{b:Bool}{v:V}{d:D}{u:Value}(I:Inv X ac σ H s)(i:Is X.K H v d)(hd:∀n,d≠.ty n)(rx:aI v u)(e:PySem.W.kitOne X.K (.type (eM d)) c=some b)(h:∀tk,Q (.bool b) { s with toks:=tk }):
  wpAny (model X.prog X.w) A (call (.builtin "isinstance") [u,c]) Q E s:=by
 cases i with
 |non=>exact dA I rx .non e h
 |bl y=>exact dA I rx (.bl y) e h
 |int y=>exact dA I rx (.int y) e h
 |str y=>exact dA I rx (.str y) e h
 |ty n=>exact absurd rfl (hd n)
 |dk h1 _ _=>exact dA I rx (.dK h1) e h
 |dt h1 _ _=>exact dA I rx (.dT h1) e h
 |tup ht _=>
  cases rx
  obtain⟨its,_,⟨o,h1,h2,_⟩,_⟩:=I.tuple ht;exact kia_one PySem.W.kitx_tuple I.kIn ⟨o,h1,h2⟩ e (λz=>nomatch z) h
 |lst hl _=>
  cases rx
  obtain⟨its,_,⟨o,n,h1,h2,_⟩,_⟩:=I.list hl;exact kia_one PySem.W.kitx_list I.kIn ⟨o,h1,h2⟩ e (λz=>nomatch z) h
theorem nB (K:Frag)(d:D)(hd:∀n,d≠.ty n):
  PySem.W.kitOne K (.type (eM d)) (.type "int")=some (eM d == "int" || eM d == "bool")/\PySem.W.kitOne K (.type (eM d)) (.type "bool")=some (eM d == "bool")/\PySem.W.kitOne K (.type (eM d)) (.type "str")=some (eM d == "str") /\
   PySem.W.kitOne K (.type (eM d)) (.type "list")=some (eM d == "list")/\PySem.W.kitOne K (.type (eM d)) (.type "tuple")=some (eM d == "tuple"):=by
 cases d<;>(first|exact absurd rfl (hd _)|skip)
 all_goals (simp only[eM];refine⟨?_,?_,?_,?_,?_⟩<;>kernel_rfl)
theorem aQ:bN X (.builtin "isinstance") (yt X.K aC):=by
 intro ac s σ H xs us Q I rs q;obtain⟨B,ds,d,b,sB,i,e,q⟩:=q;cases i with
 |nil=>cases e
 |cons i1 i=>cases i with
 |nil=>cases e
 |cons i2 i=>
  cases i2<;>try (cases e;done)
  cases i<;>try (cases e;done)
  rename_i dx n;obtain⟨u1,u2,rfl,r1,r2⟩:=uG rs;cases r2
  simp only[aC]at e;split at e
  ·cases e
  ·rename_i ht;have hd:∀n,dx≠.ty n:=λn z=>by subst z;exact ht rfl
   obtain⟨k1,k2,k3,k4,k5⟩:=nB X.K dx hd;have g6:∀ {k:Bool},PySem.W.kitOne X.K (.type (eM dx)) (.type n)=some k->Fin X.K B H (.bl k) false Q->wq X (call (.builtin "isinstance") [u1,.type n]) (EP X ac σ Q) X.xe s:=λ{k} hk q=>
    yG I (i1.mono sB) hd r1 hk λtk=>⟨.bl k,H,I.tok tk,rfl,q.one sB (.bl k)⟩
   unfold rZ at e;split at e
   ·rename_i z;subst z;cases e;exact g6 k1 q
   split at e
   ·rename_i z;subst z;cases e;exact g6 k2 q
   split at e
   ·rename_i z;subst z;cases e;exact g6 k3 q
   split at e
   ·rename_i z;subst z;cases e;exact g6 k4 q
   split at e
   ·rename_i z;subst z;cases e;exact g6 k5 q
   ·cases e
@[simp] def vv (f:FE):FA:=λρ=>(f ρ).bind λx=>gn x.1
theorem sd (h:JE X e f):JI X tg e (vv f):=by
 intro ac s σ H R I q;obtain⟨B,ρ,ds,sB,r,e',q⟩:=q;obtain⟨x,ex,es⟩:=oX e';obtain⟨xd,xb⟩:=x;cases xd<;>simp only[gn]at es<;>try (cases es;done)
 ·cases es
  refine AT h ac s σ H R I ⟨B,ρ,_,_,sB,r,ex,λv H1 N1 x1 i1 _=>?_⟩;cases i1 with
  |@tup a vs _ ht hl=>
   refine⟨a,rfl,⟨vs,bg x1.nh ht⟩,q _ H1 N1 x1 λi H2 s2=>⟨λd ed=>?_,λbT=>⟨vs,bg s2 ht,by rw[hl.length];exact bT⟩⟩⟩;obtain⟨v,ev,iv⟩:=hl.get ed;refine⟨⟨vs,v,bg s2 ht,ev⟩,λy H3 hy=>?_⟩;obtain⟨rfl,hy⟩:=hy;have:=hy vs (bg s2 ht);rw[ev]at this;cases this;exact⟨N1,.refl s2,iv⟩
 ·cases es
  refine xW h ac s σ H R I ⟨B,ρ,_,_,sB,r,ex,λv H1 N1 x1 i1 _=>?_⟩;cases i1 with
  |@lst a vs _ ht hl=>
   refine⟨a,rfl,⟨vs,x1.nh.seq ht⟩,q _ H1 N1 x1 λi H2 s2=>⟨λd ed=>?_,λbT=>⟨vs,s2.seq ht,by rw[hl.length];exact bT⟩⟩⟩;obtain⟨v,ev,iv⟩:=hl.get ed;refine⟨⟨vs,v,s2.seq ht,ev⟩,λy H3 hy=>?_⟩;obtain⟨rfl,hy⟩:=hy;have:=hy vs (s2.seq ht);rw[ev]at this;cases this;exact⟨N1,.refl s2,iv⟩
noncomputable def bB (lo:Int)(n:Nat):List D:=(List.range n).map λ(k:Nat)=>.int (lo+(k:Int))
theorem oN {K:Frag}{B:Hp}(lo:Int)(n:Nat):lJ K (Dp lo n) B (bB lo n):=by
 intro i H s;unfold bB;refine⟨λd ed=>?_,λhl=>by rw[vH,List.length_range]at hl;exact hl⟩;rw[vA]at ed;obtain⟨k,ek,ed⟩:=oY ed;have hk:=vV ek;obtain⟨fH,hk⟩:=hk;rw[List.length_range]at fH;rw[List.getElem_range]at hk;subst hk;subst ed;refine⟨fH,λx H' hy=>?_⟩;obtain⟨rfl,rfl⟩:=hy;exact⟨B,.refl s,.int _⟩
@[simp] def bC (f:FE):FA:=λρ=>match f ρ with
 |some (.int j,_)=>if -1000<=j/\j<=1000 then some (bB 0 j.toNat)else none
 |_=>none
theorem iL (hm:X.mg "range" = none)(h:JE X a f)(hg:Gl X "range":=by rfl)(hs:starEach [a] X.env=[(false,eval a X.env)]:=by rfl):PI X tg (.Call (.Name "range" p) [a] [] pos) (C6 X.K (bC f)):=by
 refine PI.to (sY hg hm (ag h ae hs) hs) λσ H R q=>?_;obtain⟨B,ρ,ds,sB,r,e',q⟩:=q;unfold bC at e';split at e'
 ·rename_i j b' ef;split at e'
  ·rename_i hj;cases e'
   refine⟨B,ρ,[.int j],sB,r,by simp[aa,af,ef],λvs H1 N1 x1 i1=>?_⟩;cases i1 with
   |cons i1 i2=>
    cases i1;cases i2
    exact⟨j,rfl,by omega,by omega,q _ H1 N1 x1 λ_=>oN 0 j.toNat⟩
  ·cases e'
 ·cases e'
theorem gF (hm:X.mg "range" = none)(h:JE X a f)(hg:Gl X "range":=by rfl)(hs:starEach [a] X.env=[(false,eval a X.env)]:=by rfl):JI X tg (.Call (.Name "range" p) [a] [] pos) (bC f) :=
 PI.to (iL hm h hg hs) λσ H R ⟨B,ρ,ds,sB,r,e',q⟩=>⟨B,ρ,ds,sB,r,e',λJ H' N x h=>q J H' N x (h _)⟩
end
def dU (K:Frag)(x:Str)(st:Stmt):Prop:=∃(f:Addr)(fd:FuncData),xN K x x st f fd/\PySem.W.nsIn K mainGlobals x=some (some (.ref f))
theorem def_mk {K:Frag}{x:Str}{st:Stmt}{f:Addr}{oc:Value}{od an:Option Addr}{jz:Array (Option Value)}{kV doc pm bM ct:Value}(a:PySem.W.nsIn K mainGlobals x=some (some (.ref f)))
  (l:K.lookup f=some ⟨oc,od,.func (fnOf x x (c6 st) (ba st) (ar st) .none kV doc pm an bM ct),jz⟩) (c:PySem.W.codeIn K bM x=true) (k:PySem.W.keepIn K (.ref f)=true):dU K x st:=⟨f,_,uU l c k,a⟩
section
variable {P:Program}{w:World}{K:Frag}{mg:Str->Option Value}{base:Heap}
theorem dU.fn {x:Str}{st:Stmt}{N ps:List Str}{k:Nat}{g:FS}{h:Heap}(F:dU K x st)(X:K.In h)(G:h.Ns mainGlobals mg)(S:FnScope N ps (ar st))
  (ro:∀(kV doc pm:Value)(an:Option Addr)(bM ct:Value)(us:List Value),us.length=ps.length->bindArgs (fnOf x x (c6 st) (ba st) (ar st) .none kV doc pm an bM ct) ⟨us,[]⟩=pure (ps.zip us))
  (hb:∀(f:Addr)(bM:Value)(A:Around)(outer:List PySem.Env)(s:Shared)(H:Hp)(E:XK),cE k (A.deeper (envOfC x (ar st) s.heap.objs.size f bM))->nZ (eC kq P w K mg base N x (ar st) f bM A outer s H E).nox (ba st) g):
  Fn P w K mg base (k+1) x (aZ g ps.length (N.length - ps.length)):=by
 obtain⟨f,fd,F1,a⟩:=F;exact⟨f,fd,ps,DJ F1 S (hb f),mg_of X G a,F1.kp,F1.binds ro⟩
end
def DP (H:Hp):Prop:=∀b,H b=none∨(∃o xs,H b=some (.frz o (.lst xs)))∨∃q,H b=some (.tbl q)
noncomputable def kC (g0:List (Addr×Str))(G:Hp):Hp:=λb=>match g0.lookup b with|some q=>some (.tbl q)|none=>G b
theorem dI (e:g0.lookup b=some q):kC g0 G b=some (.tbl q):=by unfold kC;rw[e]
theorem fQ (e:g0.lookup b=none):kC g0 G b=G b:=by unfold kC;rw[e]
theorem tH {P:Program}{w:World}{K:Frag}{mg mb:Str->Option Value}{k:Nat}{fa a:Addr}{fd:FuncData}{x:Str}{sp:Sp}{s₁:Shared}{vs:List Value}{ns:List Int}(g0:List (Addr×Str))
  (ht:∀b q,g0.lookup b=some q->s₁.heap.get? b=some (PySem.W.tabObj #[])/\isCodeTable s₁.heap b) (Lg:PySem.W.noTabs K=true)
  (KX:K.In s₁.heap) (EQ:s₁.heap.Ns mainGlobals mg) (hb:s₁.heap.Ns builtinsNs mb) (Lh:∀x:Str,x ≠ "__name__"->mb x=bootBuiltins x) (HB:s₁.heap.NoLimit)
  (Li:∃bm ob,mg "__builtins__" = some (.ref bm)/\bm≠builtinsNs/\s₁.heap.get? bm=some ob/\ob.cls=.type "module"/\ob.dict=some builtinsNs/\ob.data=.plain) (hg:s₁.gens=#[])
  (ha:s₁.heap.get? a=some { cls:=.type "list",data:=.seq vs.toArray }) (hi:IntsAre vs ns) (hl:ns.length<=sizeLine) (hr:cE k callerA)
  (F:∀base:Heap,K.In base->base.Ns mainGlobals mg->fg P w K mg base kq k fa fd [x] sp) (ER:∀(s:Shared)(u:Value),BindsTo s fd ⟨[u],[]⟩ [(x,u)])
  (A8:∀H:Hp,(∀b q,g0.lookup b=some q->H b=some (.tbl q))->gb K H a (ns.map V.int)->sp [.ref a] H (λv _=>v=.bl true) λ_ _ _=>False):
  codeAny (model P w) callerA (.call (.ref fa) ⟨[.ref a],[]⟩) (λr s'=>r=.ok (.ret (.bool true))/\OldK s₁.heap s'.heap/\s'.os=s₁.os/\AllBare s'.gens) s₁:=by
 have rv:=L2.mh hi;have HC:=hi.length;have ES:∀H:Hp,DP H->(∀b q,g0.lookup b=some q->H b=some (.tbl q))->gb K H a (ns.map V.int)->j4 P w H s₁.heap->(∀b q,H b=some (.tbl q)->s₁.heap.get? b=some (PySem.W.tabObj #[])/\isCodeTable s₁.heap b) ->
   (∀b o u,H b=some (.frz o u)->b=a)->(∀b o u,H b=some (.frz o u)->K.lookup b=none) ->
   codeAny (model P w) callerA (.call (.ref fa) ⟨[.ref a],[]⟩) (λr s'=>r=.ok (.ret (.bool true))/\OldK s₁.heap s'.heap/\s'.os=s₁.os/\AllBare s'.gens) s₁:=by
  intro H hO hT hS hok hA hB hK;have E9:∀ {b:Addr}{o:Obj},s₁.heap.get? b=some o->(o.cls≠.none)->(o.cls≠.type "list")->H b=none:=λ{b o} e d d'=>by
   rcases hO b with q|⟨ob,xs,q⟩|⟨u,q⟩
   ·exact q
   ·have e':b=a:=hB b _ _ q;subst e';rw[ha]at e;cases e;exact absurd rfl d'
   ·rw[(hA b u q).1]at e;cases e;exact absurd rfl d
  have Lj:∀ {b:Addr}{o:Obj}{es:Array DictEntry}{ep:Nat},s₁.heap.get? b=some o->o.data=.dict es ep->H b=none:=λ{b o es ep} e d=>by
   rcases hO b with q|⟨ob,xs,q⟩|⟨u,q⟩
   ·exact q
   ·have e':b=a:=hB b _ _ q;subst e';rw[ha]at e;cases e;cases d
   ·rw[(hA b u q).1]at e;cases e;cases d
  have Gb:∀ {b:Addr}{m:Str->Option Value},s₁.heap.Ns b m->(oj s₁.heap H).Ns b m:=λ{b m} ⟨o,es,ep,e,d,r⟩=>⟨o,es,ep,kg e (Lj e d),d,r⟩;have Jm:K.In (oj s₁.heap H):=λb o e=>kg (KX b o e) (by
   rcases hO b with q|⟨ob,xs,q⟩|⟨u,q⟩
   ·exact q
   ·rw[hK b _ _ q]at e;cases e
   ·have z:=(hA b u q).1;rw[KX b o e]at z;cases z
    have:=uR Lg _ (PySem.W.mem_of_lookupK e);simp at this)
  have hM:Mod K mg (oj s₁.heap H):=⟨Jm,Gb EQ,⟨mb,Gb hb,Lh⟩,let ⟨mc,h1,h2⟩:=HB;⟨mc,Gb h1,h2⟩,by
   obtain⟨bm,ob,b1,b2,b3,b4,b5⟩:=Li;exact⟨bm,ob,b1,b2,kg b3 (E9 b3 (by rw[b4];exact λz=>nomatch z) (by rw[b4];intro z;injection z with z;exact absurd z (by decide))),b4,b5⟩⟩
  have e0:Env0 P w K mg (oj s₁.heap H) callerA [] s₁ H:=⟨rfl,hM,λb o e=>xQ e,Nat.le_of_eq (sW _ _),trivial,λb hb=>absurd (show b∈([]:List Addr)from hb) (by simp),hok,.of_eq hg⟩;refine codeAny_mono ((F _ Jm (Gb EQ)).run callerA [] s₁ H ⟨[.ref a],[]⟩ [.ref a] [.ref a] _ _ hr e0 (ER s₁ (.ref a)) (.cons rfl .nil) (A8 H hT hS)) λr s' h=>?_;cases r with
  |error e=>exact False.elim h
  |ok fl=>
   cases fl with
   |next=>exact False.elim h
   |brk=>exact False.elim h
   |cont=>exact False.elim h
   |ret u=>
    obtain⟨v,H',os,bare,un,ET,r',q⟩:=h;have q':v=.bl true:=q;subst q';obtain rfl:u=Value.bool true:=r';have kp:∀b o,H b=none->s₁.heap.get? b=some o->s'.heap.get? b=some o:=λb o n e=>un.keep b o e n (by intro z;exact absurd (show b∈([]:List Addr)from z) (by simp)) (by simp);refine⟨rfl,⟨λb o e=>?_,λb o e=>un.there b o e (by simp)⟩,os,bare⟩;rcases hO b with z|⟨ob,xs,z⟩|⟨u,z⟩
    ·exact .inl (kp b o z e)
    ·have z2:=un.frzs b ob _ z;obtain⟨e1,_⟩:=hok b _ z;obtain⟨e2,_⟩:=ET b _ z2;rw[e]at e1;cases e1;exact .inl e2
    ·obtain⟨e1,e2⟩:=hA b u z;rw[e]at e1;cases e1;obtain⟨ps,e3,_⟩:=ET b _ (un.tbls b u z);exact .inr (.inl ⟨e2,rfl,#[],ps,rfl,by simpa using e3⟩)
 have Cm:∀q,g0.lookup a≠some q:=λq z=>by
  have:=(ht a q z).1;rw[ha]at this;cases this
 have ta:g0.lookup a=none:=by
  cases z:g0.lookup a with
  |none=>rfl
  |some q=>exact absurd z (Cm q)
 have A9:∀(G:Hp) b q,g0.lookup b=some q->bD P w (kC g0 G) s₁.heap b (.tbl q):=λG b q z=>⟨#[],(ht b q z).1,trivial,λpos cv c=>by cases c⟩;cases hk:K.lookup a with
 |some o=>
  have e:=KX a o hk;rw[ha]at e;cases e
  refine ES (kC g0 λ_=>none) (λb=>?_) (λb q z=>dI z) (.inr ⟨_,vs.toArray,_,hk,rfl,rfl,rfl,by rw[vG,HC];exact hl,by simpa using rv⟩) (λb u z=>?_) (λb q z=>?_) (λb o u z=>?_) λb o u z=>?_
  all_goals cases zt:g0.lookup b with
   |none=>first|exact .inl (fQ zt)|(rw[fQ zt]at z;cases z)
   |some q'=>first|exact .inr (.inr ⟨q',dI zt⟩)|(rw[dI zt]at z;cases z;done)|(rw[dI zt]at z;cases z;first|exact A9 _ b _ zt|exact ht b _ zt)
 |none=>
  refine ES (kC g0 λb=>if b=a then some (.frz { cls:=.type "list",data:=.seq vs.toArray } (.lst (ns.map V.int)))else none) (λb=>?_) (λb q z=>dI z) (.inl (.inr ⟨{ cls:=.type "list",data:=.seq vs.toArray },by rw[fQ ta,if_pos rfl]⟩)) (λb u z=>?_) (λb q z=>?_) (λb o u z=>?_) λb o u z=>?_
  all_goals cases zt:g0.lookup b with
   |some q'=>first|exact .inr (.inr ⟨q',dI zt⟩)|(rw[dI zt]at z;cases z;done)|(rw[dI zt]at z;cases z;first|exact A9 _ b _ zt|exact ht b _ zt)
   |none=>
    first
    |rw[fQ zt]at z
    |rw[fQ zt]
    by_cases hb:b=a
    ·first
     |rw[if_pos hb]at z
     |rw[if_pos hb]
     first
     |exact .inr (.inl ⟨_,_,rfl⟩)
     | (cases z;subst hb;exact⟨ha,by rw[vH];exact hl,vs,_,rv,ha⟩)
     |exact hb
     | (rw[hb];exact hk)
     |cases z
    ·first
     | (rw[if_neg hb]at z;cases z)
     |exact .inl (if_neg hb)
noncomputable def nD (L:List (Str×Option (Addr×Addr))):List (Addr×Str):=L.filterMap λp=>p.2.map λq=>(q.2,Bn p.1)
structure ke (K:Frag)(L:List (Str×Option (Addr×Addr))):Prop where
 names:L=o5.map λx=>(x,PySem.W.tabIn K x)
 apart:((nD L).map (·.1)).Nodup
 none:PySem.W.noTabs K=true
theorem hJ {α β:Type}[BEq α][LawfulBEq α]:∀ {l:List (α×β)}{a:α}{b:β},(l.map (·.1)).Nodup->(a,b)∈l->l.lookup a=some b
 | (c,d)::l,a,b,nd,h=>by
  rw[List.lookup_cons];rcases vP h with e|h
  ·cases e;simp
  ·have ne:a≠c:=λz=>(List.nodup_cons.mp nd).1 (by rw[←z];exact List.mem_map.mpr ⟨(a,b),h,rfl⟩);rw[show(a == c)=false by simpa using ne];exact hJ (List.nodup_cons.mp nd).2 h
theorem gG {α β:Type}[BEq α][LawfulBEq α]:∀ {l:List (α×β)}{a:α}{b:β},l.lookup a=some b->(a,b)∈l
 | (c,d)::l,a,b,h=>by
  rw[List.lookup_cons]at h;cases e:a == c with
  |true=>rw[e]at h;cases h;rw[eq_of_beq e];exact mX
  |false=>rw[e]at h;exact mZ _ (gG h)
theorem ke.tb {K:Frag}{L:List (Str×Option (Addr×Addr))}(F:ke K L){H:Hp}(h:∀b q,(nD L).lookup b=some q->H b=some (.tbl q)):Tb K H:=λx hx c P e=>by
 refine h P (Bn x) (hJ F.apart ?_);rw[F.names];exact List.mem_filterMap.mpr ⟨(x,PySem.W.tabIn K x),List.mem_map.mpr ⟨x,hx,rfl⟩,by rw[e];rfl⟩
theorem tab_no {K:Frag}{x:Str}(e:PySem.W.nsIn K mainGlobals x=some none):PySem.W.tabIn K x=none:=by unfold PySem.W.tabIn;rw[e]
theorem tabs_fit {K:Frag}{t0 t1 t2 t3 t4:Option (Addr×Addr)}(h0:PySem.W.tabIn K "in_order" = t0)(h1:PySem.W.tabIn K "has_seal" = t1)(h2:PySem.W.tabIn K "is_first_death" = t2)(h3:PySem.W.tabIn K "bases_by" = t3)(h4:PySem.W.tabIn K "as_heard" = t4)
  (ap:((nD [("in_order",t0),("has_seal",t1),("is_first_death",t2),("bases_by",t3),("as_heard",t4)]).map (·.1)).Nodup) (nt:PySem.W.noTabs K=true):ke K [("in_order",t0),("has_seal",t1),("is_first_death",t2),("bases_by",t3),("as_heard",t4)] :=
 ⟨by subst h0;subst h1;subst h2;subst h3;subst h4;rfl,ap,nt⟩
theorem dU.law {P:Program}{w:World}{K:Frag}{mg:Str->Option Value}{x y:Str}{st:Stmt}{N:List Str}{k:Nat}{g:FS}{h:Heap}{fa:Addr}(F:dU K x st)(X:K.In h)(G:h.Ns mainGlobals mg)(HD:mg x=some (.ref fa))(S:FnScope N [y] (ar st))
  (ro:∀(kV doc pm:Value)(an:Option Addr)(bM ct:Value)(u:Value),bindArgs (fnOf x x (c6 st) (ba st) (ar st) .none kV doc pm an bM ct) ⟨[u],[]⟩=pure [(y,u)])
  (hb:∀(base:Heap),K.In base->base.Ns mainGlobals mg->∀(f:Addr)(bM:Value)(A:Around)(outer:List PySem.Env)(s:Shared)(H:Hp)(E:XK),cE k (A.deeper (envOfC x (ar st) s.heap.objs.size f bM))->nZ (eC kq P w K mg base N x (ar st) f bM A outer s H E).nox (ba st) g):
  ∃fd:FuncData,(∀(s:Shared)(u:Value),BindsTo s fd ⟨[u],[]⟩ [(y,u)])/\∀base:Heap,K.In base->base.Ns mainGlobals mg->fg P w K mg base kq (k+1) fa fd [y] (xK K (aZ g 1 (N.length - 1))):=by
 obtain⟨f,fd,F1,a⟩:=F;have e:=HD.symm.trans (mg_of X G a);cases e
 refine⟨fd,λs u=>?_,λbase kb nb=>DJ F1 S (hb base kb nb _)⟩;obtain⟨oc,od,kV,doc,pm,an,bM,ct,jz,rfl,lk,gt⟩:=F1.ex;exact .of_eq (ro kV doc pm an bM ct u)
section
variable {X:Cx}{a b e:Expr}{pos:Pos}{x:Str}{p:Pos}
@[simp] noncomputable def yH:D->D->OB
 |.lst xs,.lst ys=>if xs.length+ys.length<=sizeLine then some (.lst (xs++ys),true)else none
 |_,_=>none
theorem B5:cG X (binaryOp .Add) (rD X.K yH):=by
 intro ac s σ H x y v u Q I rx ry q;obtain⟨B,dx,dy,d,bb,sB,ix,iy,ee,q⟩:=q;cases ix<;>try (cases ee;done)
 all_goals (cases iy<;>try (cases ee;done))
 rename_i l vs ds h hl l' ws es h' sS;simp only[yH]at ee;split at ee
 ·rename_i hz;cases ee
  cases rx
  cases ry
  obtain⟨its,r1,p1,z1⟩:=I.list (sB.seq h);obtain⟨lT,r2,p2,z2⟩:=I.list (sB.seq h');obtain⟨⟨c1,d1,t1,s1⟩,o1,e1,n1,k1⟩:=p1.isList;obtain⟨⟨c2,d2,t2,s2⟩,o2,e2,n2,k2⟩:=p2.isList;dsimp only at e1 k1 e2 k2;subst e1;subst k1;subst e2;subst k2;have hsz:its.toArray.size+lT.toArray.size<=sizeLine:=by
   rw[vG,vG,←r1.length,←r2.length,hl.length,sS.length];exact hz
  have ea:its.toArray++lT.toArray=(its++lT).toArray:=by simp
  refine concat_meets ⟨_,o1,rfl⟩ ⟨_,o2,rfl⟩ noFill_list_add seq_list_add PySem.F.slot_list_add PySem.F.entry_list_add (PySem.F.args_list_add_2 _ _) (list_addW l l' its.toArray lT.toArray n1 n2 d1 d2 s1 s2 hsz) ⟨o1,o2,?_⟩;rw[ea];have xt:=Ext.laid (o:=.lst (vs++ws)) sB I.fresh;have il:=(hl.append sS).mono xt.bn;exact⟨.ref s.heap.objs.size,_,I.lnew (t':=s.toks) (r1.append r2) (by rw[uZ,hl.length,sS.length];exact hz),rfl,q _ _ _ xt (.lst (gb.of aw) il) λ_=>⟨_,_,_,rfl,rfl,I.fresh,aw,il⟩⟩
 ·cases ee
@[simp] noncomputable def yI:D->D->OB
 |.tup xs,.tup ys=>if xs.length+ys.length<=sizeLine/\xs.isEmpty=false then some (.tup (xs++ys),false)else none
 |_,_=>none
theorem B6:cG X (binaryOp .Add) (rD X.K yI):=by
 refine gC yj λx y H Q q=>?_;obtain⟨B,dx,dy,d,bb,sB,ix,iy,ee,q⟩:=q;cases ix<;>try (cases ee;done)
 all_goals (cases iy<;>try (cases ee;done))
 rename_i l vs ds h hl l' ws es h' sS;simp only[yI]at ee;split at ee
 ·rename_i hz;cases ee
  have l1:=hl.length;have l2:=sS.length;refine⟨l,l',vs,ws,rfl,rfl,bg sB h,bg sB h',λz=>?_,by omega,λz=>?_,λ_ pp hp=>?_⟩
  ·subst z;cases hl
   simp at hz
  ·subst z;cases sS
   rw[uQ]at q;exact q.one sB (.tup h hl)
  ·have xt:=Ext.laid (o:=.tup (vs++ws)) sB hp;exact q _ _ _ xt (.tup (gc.of aw) ((hl.append sS).mono xt.bn)) (by simp)
 ·cases ee
@[simp] noncomputable def vw:D->D->OB
 |.bl i,.int j=>some (.int ((if i=true then 1 else 0)+j),false)
 |.int i,.bl j=>some (.int (i+b2i j),false)
 |_,_=>none
theorem B7:cG X (binaryOp .Add) (rD X.K vw):=by
 intro ac s σ H x y v u Q I rx ry q;obtain⟨B,dx,dy,d,bb,sB,ix,iy,ee,q⟩:=q;cases ix<;>try (cases ee;done)
 all_goals (cases iy<;>try (cases ee;done))
 ·simp only[vw]at ee;cases ee
  cases rx
  obtain⟨t,rfl⟩:=ry;exact IntBool.add_bool_int ⟨.int _,H,I.tok _,⟨_,rfl⟩,q.one sB (.int _)⟩
 ·simp only[vw]at ee;cases ee
  exact tf ac s σ H _ _ v u Q I rx ry ⟨_,_,rfl,rfl,q.one sB (.int _)⟩
@[simp] noncomputable def bj:D->D->OB
 |.int i,.int j=>some (.int (i+j),false)
 |.str i,.str j=>if i.length+j.length<=sizeLine then some (.str (i++j),false)else none
 |.lst xs,.lst ys=>if xs.length+ys.length<=sizeLine then some (.lst (xs++ys),true)else none
 |.tup xs,.tup ys=>if xs.length+ys.length<=sizeLine/\xs.isEmpty=false then some (.tup (xs++ys),false)else none
 |.bl i,.int j=>some (.int ((if i=true then 1 else 0)+j),false)
 |.int i,.bl j=>some (.int (i+b2i j),false)
 |_,_=>none
theorem aV:cG X (binaryOp .Add) (rD X.K bj):=by
 refine gC (r:=rD X.K (xJ rW (xJ yH (xJ yI vw)))) (kz yC (kz B5 (kz B6 B7))) λx y H Q q=>?_;obtain⟨B,dx,dy,d,bb,sB,ix,iy,ee,q⟩:=q;refine⟨B,dx,dy,d,bb,sB,ix,iy,?_,q⟩;cases dx<;>try (cases ee;done)
 all_goals (cases dy<;>try (cases ee;done))
 all_goals (simp[bj]at ee;simp[xJ,rW,yH,yI,vw,ee])
@[simp] noncomputable def GJ:D->Option Bool
 |.bl b=>some b
 |_=>none
def qD:List D->Option (List Bool)
 |[]=>some []
 |d::ds=>(GJ d).bind λb=>(qD ds).map (b :: ·)
@[simp] theorem DQ:qD []=some []:=rfl
@[simp] theorem tI (d:D)(ds:List D):qD (d::ds)=(GJ d).bind λb=>(qD ds).map (b :: ·):=rfl
theorem sg {K:Frag}{B:Hp}:∀ {vs:List V}{ds:List D}{bs:List Bool}{its:List Value},L2.aT vs its->IsL K B vs ds->qD ds=some bs->its=bs.map Value.bool
 |_,_,_,_,.nil,.nil,e=>by cases e;rfl
 |_,_,_,_,.cons r rr,.cons i ii,e=>by
  rw[tI]at e;obtain⟨b,e1,e⟩:=oX e;obtain⟨bs,e2,e⟩:=oY e;subst e;cases i<;>simp only[GJ]at e1<;>try (cases e1;done)
  cases e1
  cases r
  rw[sg rr ii e2];rfl
@[simp] def nE:List D->OB
 |[.lst ds]=>(qD ds).map λbs=>(.bl (bs.all id),false)
 |_=>none
theorem oP (hc:X.calm=true:=by rfl):bN X (.builtin "all") (yt X.K nE):=by
 intro ac s σ H xs us Q I rs q;obtain⟨B,ds,d,bb,sB,i,ee,q⟩:=q;cases i with
 |nil=>cases ee
 |cons i1 i=>
  cases i with
  |cons _ _=>cases i1<;>cases ee
  |nil=>
   cases i1<;>try (cases ee;done)
   rename_i l vs es h hl;obtain⟨bs,eb,ee⟩:=oY ee;cases ee
   obtain⟨u1,rfl,r1⟩:=kl rs;cases r1
   obtain⟨its,rv,p1,z1⟩:=I.list (sB.seq h);have ei:=sg rv hl eb;have fH:l<s.heap.objs.size:=by obtain⟨_,e0,_⟩:=p1.isList;exact vX e0
   refine call_all_walk (wpAny_pyIter_list p1.isList ⟨_,_,_,_,_,_,λj=>(bs[j]?).getD true,rfl,Walks.list (A:=X.A.in1) (I.ok.hd hc) s.heap.objs.size l (vS fH) its.toArray,⟨⟨_,vY _ rfl,rfl,rfl⟩,p1.isList.push _⟩,λj v s' Q' E' hP hQ=>?_,λh' tk hk=>?_⟩)
   ·have Jn:its[j]? = some v:=by simpa using hP
    rw[ei,vA]at Jn;obtain⟨c,e1,e2⟩:=oY Jn;subst e2;dsimp only at hQ;rw[e1]at hQ;exact wpAny_truthy_bool hQ
   ·have ea:((List.range its.toArray.size).all λj=>(bs[j]?).getD true)=bs.all id:=by
     rw[vG,ei,vH];exact LSm.range_all bs
    rw[ea];refine⟨.bl _,H,I.kept λc o e0=>?_,rfl,q.one sB (.bl _)⟩;exact hk c o (λhm=>by rw[uT hm]at e0;exact Nat.lt_irrefl _ (vX e0)) (vZ _ e0)
end
noncomputable def FD (z:Str):It:=⟨λi _=>i<z.cps.size,λi H v H'=>H'=H/\∃c,z.cps[i]? = some c/\v=.str ⟨#[c]⟩,λi _=>z.cps.size<=i⟩
theorem oQ {P:Program}{w:World}{K:Frag}{tg:Expr}(z:Str)(t:Tok)(it:Addr):Turn P w K tg (FD z) [it] it (λi h=>h.IsStrIter it "str_ascii_iterator" z t i) where
 mem:=List.mem_singleton.mpr rfl
 obj:=λi h st b hb=>by
  have eb:=uT hb;subst eb;obtain⟨o,e1,_,d1⟩:=st;exact⟨o,e1,λv zz=>by rw[d1]at zz;cases zz⟩
 keep:=λi h h' st k=>let ⟨o,e1,r⟩:=st;⟨o,k it (List.mem_singleton.mpr rfl) o e1,r⟩
 item:=by
  intro X hP hw hK hc i ac s σ H E I hf st hg;subst hP hw hK;have Cn:i<z.cps.size:=hg;obtain⟨f0,f1,f2,f3,f4,f5⟩:=hf it (List.mem_singleton.mpr rfl);refine wpAny_pyNext_ascii_item st (c:=z.cps[i]) (by simp[Cn]) λh' oi sb=>?_;obtain⟨o,e1,c1,d1⟩:=id oi;exact⟨_,rfl,oq (s:={ s with heap:=h',toks:=s.toks+1 }) e1 c1 d1 (by decide) ⟨.str ⟨#[z.cps[i]]⟩,H,I.turned (λb o hb e2=>(sb.2 b hb).trans e2) f0 f1 f3 f4 f5,⟨_,rfl⟩,⟨rfl,_,by simp[Cn],rfl⟩,oi,λb hb=>(hf b hb).1⟩⟩
 done:=by
  intro X hP hw hK hc i ac s σ H E I hf st hg;subst hP hw hK;have Cn:z.cps.size<=i:=hg;obtain⟨f0,f1,f2,f3,f4,f5⟩:=hf it (List.mem_singleton.mpr rfl);exact wpAny_pyNext_ascii_end (I.ok.hd hc) st (by simp;omega) λh' eb=>⟨rfl,I.turned (t':=s.toks) (λb o hb e2=>eb b o hb e2) f0 f1 f3 f4 f5⟩
 self:=λ_ _ _ _ _ st h=>wpAny_pyIter_striter_ascii st h
theorem oR {P:Program}{w:World}{K:Frag}{tg:Expr}(z:Str)(t:Tok)(it:Addr):Turn P w K tg (FD z) [it] it (λi h=>h.IsStrIter it "str_iterator" z t i) where
 mem:=List.mem_singleton.mpr rfl
 obj:=λi h st b hb=>by
  have eb:=uT hb;subst eb;obtain⟨o,e1,_,d1⟩:=st;exact⟨o,e1,λv zz=>by rw[d1]at zz;cases zz⟩
 keep:=λi h h' st k=>let ⟨o,e1,r⟩:=st;⟨o,k it (List.mem_singleton.mpr rfl) o e1,r⟩
 item:=by
  intro X hP hw hK hc i ac s σ H E I hf st hg;subst hP hw hK;have Cn:i<z.cps.size:=hg;obtain⟨f0,f1,f2,f3,f4,f5⟩:=hf it (List.mem_singleton.mpr rfl);refine wpAny_pyNext_wide_item st (c:=z.cps[i]) (by simp[Cn]) λh' oi sb=>?_;obtain⟨o,e1,c1,d1⟩:=id oi;exact⟨_,rfl,oq (s:={ s with heap:=h',toks:=s.toks+1 }) e1 c1 d1 (by decide) ⟨.str ⟨#[z.cps[i]]⟩,H,I.turned (λb o hb e2=>(sb.2 b hb).trans e2) f0 f1 f3 f4 f5,⟨_,rfl⟩,⟨rfl,_,by simp[Cn],rfl⟩,oi,λb hb=>(hf b hb).1⟩⟩
 done:=by
  intro X hP hw hK hc i ac s σ H E I hf st hg;subst hP hw hK;have Cn:z.cps.size<=i:=hg;obtain⟨f0,f1,f2,f3,f4,f5⟩:=hf it (List.mem_singleton.mpr rfl);exact wpAny_pyNext_wide_end (I.ok.hd hc) st (by simp;omega) λh' eb=>⟨rfl,I.turned (t':=s.toks) (λb o hb e2=>eb b o hb e2) f0 f1 f3 f4 f5⟩
 self:=λ_ _ _ _ _ st h=>wpAny_pyIter_striter_wide st h
section
variable {X:Cx}{a b e:Expr}{pos:Pos}{x:Str}{p:Pos}{tg:Expr}
theorem vx {l:Expr}{tl:TE}(hl:PE X l tl):PI X tg l (λσ H R=>tl σ H λx H1=>∃z,x=.str z/\R (FD z) H1):=by
 intro ac s σ H R I h;refine bY (hl ac s σ H _ I h) λv s1 ⟨x,H1,I1,r1,q1⟩=>?_;obtain⟨z,rfl,q⟩:=q1;obtain⟨t,rfl⟩:=r1;have fp:∀b∈[s1.heap.objs.size],iJ X ac H1 b:=λb hb=>by
  rw[uT hb];exact I1.fpOk (vT _) (I1.hok.fresh (vT _))
 cases ha:z.cps.all (· < 128) with
 |true=>exact wpAny_pyIter_ascii ha ⟨_,[s1.heap.objs.size],_,_,H1,rfl,I1.kept (t':=s1.toks) λb o e=>vZ _ e,oQ z t _,⟨_,vY _ rfl,rfl,rfl⟩,fp,q⟩
 |false=>exact wpAny_pyIter_wide ha ⟨_,[s1.heap.objs.size],_,_,H1,rfl,I1.kept (t':=s1.toks) λb o e=>vZ _ e,oR z t _,⟨_,vY _ rfl,rfl,rfl⟩,fp,q⟩
noncomputable def oS (z:Str):List D:=z.cps.toList.map λc=>.str ⟨#[c]⟩
theorem vy {K:Frag}{B:Hp}(z:Str):lJ K (FD z) B (oS z):=by
 intro i H s;refine⟨λd ed=>?_,λhl=>by unfold oS at hl;show z.cps.size<=i;simpa using hl⟩;unfold oS at ed;rw[vA]at ed;obtain⟨c,ec,rfl⟩:=oY ed;have Jo:z.cps[i]? = some c:=by simpa using ec
 refine⟨(Array.getElem?_eq_some_iff.mp Jo).1,λv H' hy=>?_⟩;obtain⟨rfl,c',e1,rfl⟩:=hy;rw[Jo]at e1;cases e1;exact⟨B,.refl s,.str _⟩
@[simp] def B8:D->Option (List D)
 |.lst ds=>some ds
 |.tup ds=>some ds
 |.str z=>some (oS z)
 |_=>none
@[simp] def iM (f:FE):FA:=λρ=>(f ρ).bind λx=>B8 x.1
theorem gH (h:JE X e f):JI X tg e (iM f):=by
 intro ac s σ H R I q;obtain⟨B,ρ,ds,sB,r,e',q⟩:=q;obtain⟨xx,ex,es⟩:=oX e';obtain⟨xd,xb⟩:=xx;cases xd with
 |lst l=>exact sd h ac s σ H R I ⟨B,ρ,ds,sB,r,by unfold vv;rw[ex];exact es,q⟩
 |tup l=>exact sd h ac s σ H R I ⟨B,ρ,ds,sB,r,by unfold vv;rw[ex];exact es,q⟩
 |str z=>
  cases es
  refine vx h ac s σ H R I ⟨B,ρ,_,_,sB,r,ex,λv H1 N1 x1 i1 _=>?_⟩;cases i1
  exact⟨z,rfl,q _ H1 N1 x1 (vy z)⟩
 |_=>cases es
theorem yJ:uy X (λx lo hi H Q=>∃z,x=.str z/\z.length<=sizeLine/\Q (.str (Txt.slice z lo hi)) H):=by
 intro ac s σ H x v vl vu lo hi sl Q I rx hs pl pu h;obtain⟨z,rfl,hz,q⟩:=h;obtain⟨t,rfl⟩:=rx;have g6:∀lo hi,Q (.str (Txt.slice z lo hi)) H->(Txt.slice z lo hi).length<=sizeLine/\∀t' k,EP X ac σ Q (.str (Txt.slice z lo hi) t') { s with toks:=k }:=λlo hi q=>
  ⟨vR (Txt.slice_le z _ _) hz,λt' k=>⟨.str _,H,I.tok k,⟨t',rfl⟩,q⟩⟩
 refine⟨"str",_,PySem.F.slot_str_getitem.lookup,typeIs_str _ _ _,?_⟩;cases pl with
 |none=>
  cases pu with
  |none=>exact wpAny_getItem_str_slice (l:=none) (u:=none) (st:=none) hs rfl (post_val_or_str (g6 _ _ q))
  |int j tj=>exact wpAny_getItem_str_slice (l:=none) (u:=some (j,tj)) (st:=none) hs rfl (post_val_or_str (g6 _ _ q))
 |int i ti=>
  cases pu with
  |none=>exact wpAny_getItem_str_slice (l:=some (i,ti)) (u:=none) (st:=none) hs rfl (post_val_or_str (g6 _ _ q))
  |int j tj=>exact wpAny_getItem_str_slice (l:=some (i,ti)) (u:=some (j,tj)) (st:=none) hs rfl (post_val_or_str (g6 _ _ q))
theorem tJ {A:Around}{E:Value->Shared->Prop}{s:Shared}{prog:Program}{w:World}{t sl:Addr}{am:Array Value}{vl vu:Value}{lo hi:Option Int}{Q:Value->Shared->Prop}(ht:IsTup s.heap t am)(hs:s.heap.IsSliceOf sl vl vu .none)(pl:IsPart vl lo)(pu:IsPart vu hi)
  (h0:HT.c7 am.size 0 lo=0) (h1:HT.c7 am.size am.size hi=am.size) (h:Q (.ref t) s):wpAny (model prog w) A (getItem (.ref t) (.ref sl)) Q E s:=by
 obtain⟨os,z5,FV,Ch⟩:=id hs
 have hT:s.TypeIs (.ref sl) "slice":=⟨os,z5,FV⟩
 unfold getItem
 try with_reducible refine wpAny_holding ?_
 first|refine wX (wY ?_)|skip
 refine wX (wpAny_sequenceKey ht.typeIs (by decide) ?_)
 refine wX (wpAny_callSpecial?_slot (name:=Str.ofString "__getitem__") ht.typeIs PyProof.Rows.slot_tuple_getitem (wpAny_call_entry PyProof.Rows.slot_tuple_getitem ht.typeIs entry_tuple_getitem ?_ (args_tuple_getitem _ _)))
 show wpAny _ _ (Builtin.Tuple.tupleItemsOf (.ref t)>>=_) _ _ s
 refine wX (tupleItemsOf_ ht ?_)
 refine wX (wpAny_typeOf hT ?_)
 rw[if_pos (by decide)]
 refine wX (HT.fM hs pl pu ?_)
 have EU:(((HT.c7 am.size 0 lo:Nat):Int) == 0 && (1:Int) == 1 && (HT.c7 am.size am.size hi - HT.c7 am.size 0 lo) == am.size)=true:=by
  rw[h0,h1];simp
 show wpAny _ _ (if(((HT.c7 am.size 0 lo:Nat):Int) == 0 && (1:Int) == 1 && (HT.c7 am.size am.size hi - HT.c7 am.size 0 lo) == am.size)=true then _ else _) _ _ s
 rw[if_pos EU]
 refine wX ?_
 unfold Builtin.Tuple.tupleIsExact
 refine wX (wpAny_typeOf ht.typeIs (wY ?_))
 show wpAny _ _ (if((Value.type "tuple") == Value.type "tuple")=true then _ else _) _ _ s
 rw[if_pos (by decide)]
 refine wX (wpAny_rule ?_)
 exact wY ⟨_,rfl,wY h⟩
theorem yK:uy X (λx lo hi H Q=>∃a xs,x=.ref a/\gc X.K H a xs/\HT.c7 xs.length 0 lo=0/\HT.c7 xs.length xs.length hi=xs.length/\Q (.ref a) H):=by
 intro ac s σ H x v vl vu lo hi sl Q I rx hs pl pu h;obtain⟨a,xs,rfl,hx,h0,h1,q⟩:=h;cases rx
 obtain⟨its,r,ht,hz⟩:=I.tuple hx;have bT:its.toArray.size=xs.length:=by rw[vG];exact r.length.symm
 refine⟨"tuple",_,PyProof.Rows.slot_tuple_getitem.lookup,ht.typeIs,?_⟩;exact tJ ht hs pl pu (by rw[bT];exact h0) (by rw[bT];exact h1) ⟨.ref a,H,I,rfl,q⟩
@[simp] def iC (fa:FE)(fl fh:FO):FE:=λρ=>(fa ρ).bind λx=>(fl ρ).bind λl=>(fh ρ).bind λh=>match x.1 with
 |.lst ds=>some (.lst (jQ ds l h),true)
 |.tup ds=>some (.tup (jQ ds l h),false)
 |.str z=>if z.length<=sizeLine then some (.str (Txt.slice z l h),false)else none
 |_=>none
theorem qE {ds:List D}{lo hi:Option Int}(h0:HT.c7 ds.length 0 lo=0)(h1:HT.c7 ds.length ds.length hi=ds.length):jQ ds lo hi=ds:=by
 unfold jQ;rw[h0,h1];simp
theorem bI {lo hi:Option Expr}{p2:Pos}{fa:FE}{fl fh:FO}(ha:JE X e fa)(hl:JO X lo fl)(hh:JO X hi fh):JE X (.Subscript e (.Slice lo hi none p2) pos) (iC fa fl fh):=by
 refine PE.to (uJ (uy.or (uy.or yo Bf) (uy.or yJ yK)) ha hl hh) λσ H Q q=>?_;obtain⟨B,ρ,d,b,sB,r,e,q⟩:=q;obtain⟨x,ex,e⟩:=oX e;obtain⟨l,el,e⟩:=oX e;obtain⟨h,eh,e⟩:=oX e;refine⟨B,ρ,x.1,x.2,sB,r,ex,λv H1 N1 x1 i1 _=>⟨N1,ρ,l,x1.nh,r.mono x1.bn,el,λH2 h2=>⟨N1,ρ,h,x1.nh.trans h2,r.mono x1.bn,eh,λH3 h3=>?_⟩⟩⟩;have s3:aO N1 H3:=x1.nh.trans (h2.trans h3);have q3:=q.into (x1.trans (.grow x1.nh (h2.trans h3)));obtain⟨xd,xb⟩:=x;dsimp only at e i1;cases i1 with
 |@tup a' vs ds hs hv=>
  cases e
  by_cases hw:HT.c7 ds.length 0 l=0/\HT.c7 ds.length ds.length h=ds.length
  ·rw[qE hw.1 hw.2]at q3;exact .inr (.inr ⟨a',vs,rfl,bg s3 hs,by rw[hv.length];exact hw.1,by rw[hv.length];exact hw.2,q3.one s3 (.tup hs hv)⟩)
  ·refine .inl (.inr ⟨a',vs,rfl,bg s3 hs,by rw[hv.length];exact hw,λp hp=>?_⟩);have x4:=Ext.laid (o:=.tup (lG vs l h)) s3 hp;exact q3 _ _ _ x4 (.tup (gc.of aw) ((nv hv).mono x4.bn)) (by simp)
 |@lst a' vs ds hs hv=>
  cases e
  refine .inl (.inl ⟨a',vs,rfl,s3.seq hs,λp hp=>?_⟩);have x4:=Ext.laid (o:=.lst (lG vs l h)) s3 hp;exact q3 _ _ _ x4 (.lst (gb.of aw) ((nv hv).mono x4.bn)) λ_=>⟨p,_,_,rfl,rfl,hp,aw,(nv hv).mono x4.bn⟩
 |str z=>
  dsimp only at e;split at e
  ·rename_i hz;cases e
   exact .inr (.inl ⟨z,rfl,hz,q3.one s3 (.str _)⟩)
  ·cases e
 |_=>cases e
theorem const_int {K:Frag}{y:Str}{i:Int}{t:Tok}(e:PySem.W.nsIn K mainGlobals y=some (some (.int i t))):∃u v,PySem.W.nsIn K mainGlobals y=some (some u)/\aI v u/\∀B,Is K B v (.int i):=⟨_,.int i,e,⟨t,rfl⟩,λ_=>.int i⟩
noncomputable def nF:Value->D->Bool
 |.none,.non=>true
 |.bool a,.bl b=>a == b
 |.int i _,.int j=>decide (i=j)
 |.str i _,.str j=>decide (i=j)
 |_,_=>false
def gi:List Value->List D->Bool
 |[],[]=>true
 |u::us,d::ds=>nF u d && gi us ds
 |_,_=>false
theorem gV {K:Frag}{B:Hp}:∀ {u:Value}{d:D},nF u d=true->∃v,aI v u/\Is K B v d
 |.none,.non,_=>⟨.non,rfl,.non⟩
 |.bool a,.bl b,h=>by
  have:a=b:=eq_of_beq h;subst this;exact⟨.bl a,rfl,.bl a⟩
 |.int i t,.int j,h=>by
  have:i=j:=of_decide_eq_true h;subst this;exact⟨.int i,⟨t,rfl⟩,.int i⟩
 |.str i t,.str j,h=>by
  have:i=j:=of_decide_eq_true h;subst this;exact⟨.str i,⟨t,rfl⟩,.str i⟩
theorem gj {K:Frag}:∀ {us:List Value}{ds:List D},gi us ds=true->∃vs,L2.aT vs us/\∀B,IsL K B vs ds
 |[],[],_=>⟨[],.nil,λ_=>.nil⟩
 |u::us,d::ds,h=>by
  rw[gi,vC]at h;obtain⟨vs,r,i⟩:=gj (K:=K) h.2;obtain⟨v,r1,_⟩:=gV (K:=K) (B:=λ_=>none) h.1;refine⟨v::vs,.cons r1 r,λB=>?_⟩;obtain⟨v',HE,i'⟩:=gV (K:=K) (B:=B) h.1;have:v'=v:=by have z1:=r1.abs;rw[HE.abs]at z1;exact vJ z1
  subst this;exact .cons i' (i B)
theorem const_tup {K:Frag}{y:Str}{a:Addr}{od:Option Addr}{its:Array Value}{n:Nat}{jz:Array (Option Value)}{ds:List D}(e:PySem.W.nsIn K mainGlobals y=some (some (.ref a)))
  (l:K.lookup a=some ⟨.type "tuple",od,.seq its n,jz⟩) (h:(decide (its.size<=1000) && gi its.toList ds)=true):∃u v,PySem.W.nsIn K mainGlobals y=some (some u)/\aI v u/\∀B,Is K B v (.tup ds):=by
 rw[vC]at h;obtain⟨vs,r,i⟩:=gj (K:=K) h.2;exact⟨_,.ref a,e,rfl,λB=>.tup (.inr ⟨_,its,n,l,rfl,rfl,Nat.le_of_lt (Nat.lt_of_le_of_lt (of_decide_eq_true h.1) (by decide)),r⟩) (i B)⟩
end
section
variable {X:Cx}{a b o e:Expr}{pos:Pos}{x:Str}{p:Pos}{tg:Expr}
@[simp] noncomputable def B9:D->Option Str
 |.str z=>some z
 |_=>none
def gI:List D->Option (List Str)
 |[]=>some []
 |d::ds=>(B9 d).bind λz=>(gI ds).map (z :: ·)
@[simp] theorem C9:gI []=some []:=rfl
@[simp] theorem qF (d:D)(ds:List D):gI (d::ds)=(B9 d).bind λz=>(gI ds).map (z :: ·):=rfl
@[simp] theorem CA (zs:List Str):gI (zs.map D.str)=some zs:=by
 induction zs with
 |nil=>rfl
 |cons z zs ih=>simp[ih]
theorem iN {K:Frag}{B:Hp}:∀ {vs:List V}{ds:List D}{zs:List Str}{its:List Value},L2.aT vs its->IsL K B vs ds->gI ds=some zs->StrsAre its zs
 |_,_,_,_,.nil,.nil,e=>by cases e;exact .nil
 |_,_,_,_,.cons r rr,.cons i ii,e=>by
  rw[qF]at e;obtain⟨z,e1,e⟩:=oX e;obtain⟨zs,e2,e⟩:=oY e;subst e;cases i<;>simp only[B9]at e1<;>try (cases e1;done)
  cases e1
  obtain⟨t,rfl⟩:=r;exact .cons _ t (iN rr ii e2)
noncomputable def dW:List Nat->List D->Env->Option Env
 |[],[],ρ=>some ρ
 |i::is,d::ds,ρ=>dW is ds (ρ.set i (some (d,false)))
 |_,_,_=>none
@[simp] theorem mn (ρ:Env):dW [] [] ρ=some ρ:=by rw[dW]
@[simp] theorem iq (i:Nat)(is:List Nat)(d:D)(ds:List D)(ρ:Env):dW (i::is) (d::ds) ρ=dW is ds (ρ.set i (some (d,false))):=by rw[dW]
@[simp] theorem DR (d:D)(ds:List D)(ρ:Env):dW [] (d::ds) ρ=none:=by simp only[dW]
@[simp] theorem DS (i:Nat)(is:List Nat)(ρ:Env):dW (i::is) [] ρ=none:=by simp only[dW]
@[simp] def CB (is:List Nat):FG:=λd ρ=>match d with|.tup ds=>dW is ds ρ|_=>none
def jn:List Nat->zV
 |[]=>Dl
 |i::is=>zW (iI i) (jn is)
theorem vz:aO (cO N (own σ ρ)) (cO N (own (σ.set i (some v)) (ρ.set i (some (d,false))))):=eD λa u e q=>⟨e,λz=>q (by
 rcases ng z with⟨_,d',p⟩|⟨j,_,d',q1,q2⟩
 ·cases p
 ·exact⟨j,d',q1,q2⟩)⟩
theorem jo {K:Frag}:∀ {is:List Nat}{vs:List V}{ds:List D}{B0 H0 N H:Hp}{σ:St}{ρ ρ':Env}{Q:St->Hp->Prop},dh K B0 H0 N H σ ρ->IsL K (cO N (own σ ρ)) vs ds->dW is ds ρ=some ρ'->(∀σ',dh K B0 H0 N H σ' ρ'->Q σ' H)->jn is vs σ H Q
 |[],_,_,_,_,_,_,_,_,_,_,s,.nil,e,k=>by
  rw[mn]at e;cases e;exact⟨rfl,k _ s⟩
 |[],_,_,_,_,_,_,_,_,_,_,_,.cons _ _,e,_=>by simp at e
 |_::_,_,_,_,_,_,_,_,_,_,_,_,.nil,e,_=>by simp at e
 |i::is,_,_,_,_,_,_,_,_,_,_,s,.cons h hs,e,k=>by
  rw[iq]at e;exact⟨_,_,rfl,jo (s.bind h) (hs.mono vz) e k⟩
theorem jp:∀ {is:List Nat}{ds:List D}{ρ ρ':Env},dW is ds ρ=some ρ'->ds.length=is.length
 |[],[],_,_,_=>rfl
 |_::_,_::_,_,_,e=>by rw[iq]at e;simp[jp e]
 |[],_::_,_,_,e=>by simp at e
 |_::_,[],_,_,e=>by simp at e
theorem mo {K:Frag}{n:Nat}{B H:Hp}{ρ0:Env}{Q:St->Hp->Prop}(cl:∀i,i<n->ρ0[i]? = some none):∀ {is:List Nat}{vs:List V}{ds:List D}{σ:St}{ρ ρ1:Env},(∀i∈is,i<n)->dE K B σ ρ->IsL K B vs ds->dW is ds ρ=some ρ1->ρ.length=σ.length->ρ.length=ρ0.length ->
  (∀σ1,dE K B σ1 ρ1->(∀B',dE K B' σ ρ0->dE K B' σ1 ρ0)->ρ0.length=σ1.length->Q σ1 H)->jn is vs σ H Q
 |[],_,_,_,_,_,_,rp,.nil,e,l1,l2,k=>by
  rw[mn]at e;cases e;exact⟨rfl,k _ rp (λ_ z=>z) (by omega)⟩
 |[],_,_,_,_,_,_,_,.cons _ _,e,_,_,_=>by simp at e
 |_::_,_,_,_,_,_,_,_,.nil,e,_,_,_=>by simp at e
 |i::is,_,_,σ,ρ,_,hn,rp,.cons (v:=v) h hs,e,l1,l2,k=>by
  rw[iq]at e;have hi:=hn i mX;have ur:i<σ.length:=by
   have:=(vV (cl i hi)).1;omega
  refine⟨_,_,rfl,mo cl (λj hj=>hn j (mZ _ hj)) ⟨rp.tb,λj d b q=>?_⟩ hs e (by simpa using l1) (by simpa using l2) λσ1 r1 r2 l=>k σ1 r1 (λB' z=>r2 B' ⟨z.tb,λj d b q=>?_⟩) l⟩
  ·rcases bF q with⟨rfl,pp⟩|⟨ne,pp⟩
   ·cases pp
    exact⟨v,by simp[ur],h⟩
   ·obtain⟨w,h1,h2⟩:=rp.at' j d b pp;exact⟨w,by rw[vB ne];exact h1,h2⟩
  ·obtain⟨w,h1,h2⟩:=z.at' j d b q;have ne:i≠j:=λz=>by subst z;rw[cl i hi]at q;cases q
   exact⟨w,by rw[vB ne];exact h1,h2⟩
theorem Ak {K:Frag}{n:Nat}{is:List Nat}(hn:∀i∈is,i<n):Ag K n (CB is) (Dm K is.length (jn is)):=by
 intro B H σ ρ ρ1 v d Q cl rep s h e hl k;cases h with
 |@tup a vs ds ht hv=>
  have e':dW is ds ρ=some ρ1:=e;exact⟨a,vs,rfl,bg s ht,by rw[hv.length];exact jp e',mo cl hn rep hv e' hl rfl k⟩
 |_=>cases e
end
section
variable {prog:Program}{w:World}{A:Around}{E:Value->Shared->Prop}{s:Shared}
theorem qG (st:s.heap.IsTupleIter it l i)(ht:s.heap.IsTuple l am)(hv:am[i]? = some v)
  (k:∀h',h'.IsTupleIter it l (i+1)->Heap.SameBut it s.heap h'->Q v { s with heap:=h' }):wpAny (model prog w) A (Builtin.SmallTypes.nextOf (.ref it)) Q E s:=by
 obtain⟨o1,g1,c1,d1⟩:=id st;obtain⟨o2,g2,_,n2,d2⟩:=ht;unfold Builtin.SmallTypes.nextOf;refine wX (wpAny_callSpecial?_slot (name:=Str.ofString "__next__") st.typeIs PySem.F.slot_tuple_iterator_next (wpAny_call_entry PySem.F.slot_tuple_iterator_next st.typeIs PySem.F.entry_tuple_iterator_next ?_ (PySem.F.args_tuple_iterator_next_1 _)));show wpAny _ _ (field (.ref it) 0>>=_) _ _ _;refine wX (wpAny_field g1 d1 (x:=.ref l) rfl ?_);show wpAny _ _ (if(Value.ref l == Value.none)=true then _ else _) _ _ _;rw[if_neg (λz=>uX z:¬((Value.ref l == Value.none)=true))];show wpAny _ _ (field (.ref it) 1>>=_) _ _ _;refine wX (wpAny_field g1 d1 (x:=.int i 0) rfl ?_);show wpAny _ _ (seqItems? (.ref l)>>=_) _ _ _;refine wX (wpAny_seqItems g2 d2 ?_);simp only[hv,Int.toNat_natCast];refine wX (wpAny_setField g1 d1 (by simp) (wY ⟨v,rfl,wY (k _ ?_ (vW ..))⟩));exact⟨_,Heap.get?_update_self _ g1 (Obj.isFreed_of_fields (Obj.data_mapFields d1 _)),(Obj.cls_mapFields ..).trans c1,by rw[Obj.data_mapFields d1];simp[rawInt]⟩
theorem tK (hA:A.handled=none)(st:s.heap.IsTupleIter it l i)(ht:s.heap.IsTuple l am)(hv:am[i]? = none)
  (k:∀h' x,Heap.ExtBut it s.heap h'->(∃o,h'.get? x=some o/\o.cls=.type "StopIteration")->E (.ref x) { s with heap:=h' }):wpAny (model prog w) A (Builtin.SmallTypes.nextOf (.ref it)) Q E s:=by
 obtain⟨o1,g1,c1,d1⟩:=id st;obtain⟨o2,g2,_,n2,d2⟩:=ht;unfold Builtin.SmallTypes.nextOf;refine wX (wpAny_callSpecial?_slot (name:=Str.ofString "__next__") st.typeIs PySem.F.slot_tuple_iterator_next (wpAny_call_entry PySem.F.slot_tuple_iterator_next st.typeIs PySem.F.entry_tuple_iterator_next ?_ (PySem.F.args_tuple_iterator_next_1 _)));show wpAny _ _ (field (.ref it) 0>>=_) _ _ _;refine wX (wpAny_field g1 d1 (x:=.ref l) rfl ?_);show wpAny _ _ (if(Value.ref l == Value.none)=true then _ else _) _ _ _;rw[if_neg (λz=>uX z:¬((Value.ref l == Value.none)=true))];show wpAny _ _ (field (.ref it) 1>>=_) _ _ _;refine wX (wpAny_field g1 d1 (x:=.int i 0) rfl ?_);show wpAny _ _ (seqItems? (.ref l)>>=_) _ _ _;refine wX (wpAny_seqItems g2 d2 ?_);simp only[hv,Int.toNat_natCast];refine wX (wpAny_rule (wX (wpAny_setField g1 d1 (by simp) ?_)));show wpAny _ _ (newExc (.type "StopIteration") []>>=_) _ _ _;refine wX ?_;simp only[newTuple,newExc];refine wX (wpAny_newObj_type ?_ (by size_fits));refine wX (m:=firstArgMember _ _) (wpAny_of_eq (a:=Value.none) (by first|(simp only[firstArgMember];rfl)|rfl) ?_);refine wpAny_newObj_type ?_ (by size_fits);simp only[raiseNew];refine wX (wpAny_handled ?_);first|rw[hA]|rw[show A.in1.handled=none from hA]
 exact wX (wY (wpAny_throw (k _ _ (((vW ..).extBut.push _).push _) ⟨_,vY _ rfl,rfl⟩)))
end
def iD:Bool->Heap->Addr->Addr->Nat->Prop
 |true,h,it,a,i=>h.IsListIter it a i
 |false,h,it,a,i=>h.IsTupleIter it a i
def ir:Bool->Heap->Addr->Array Value->Prop
 |true,h,a,am=>h.IsList a am
 |false,h,a,am=>h.IsTuple a am
def j7 (k:Bool)(K:Frag)(H:Hp)(a:Addr)(xs:List V):Prop:=match k with|true=>gb K H a xs|false=>gc K H a xs
theorem iD.ob (st:iD k h it a i):∃o,h.get? it=some o/\∀v,o.data≠.cell v:=by
 cases k<;>(obtain⟨o,g,_,d⟩:=st;exact⟨o,g,λv z=>by rw[d]at z;cases z⟩)
theorem iD.upon (st:iD k h it a i)(g:∀o,h.get? it=some o->h'.get? it=some o):iD k h' it a i:=by
 cases k<;>(obtain⟨o,e,r⟩:=st;exact⟨o,g o e,r⟩)
theorem ir.upon (st:ir k h a am)(g:∀o,h.get? a=some o->h'.get? a=some o):ir k h' a am:=by
 cases k<;>(obtain⟨o,e,r⟩:=st;exact⟨o,g o e,r⟩)
theorem ir.lt (st:ir k h a am):a<h.objs.size:=by
 cases k<;>(obtain⟨o,e,r⟩:=st;exact vX e)
theorem j7.same {k:Bool}{K:Frag}{H H':Hp}{a:Addr}{xs:List V}(h:j7 k K H a xs)(e:aO H H'):j7 k K H' a xs:=by
 cases k
 ·exact bg e h
 ·exact e.seq h
theorem j7.vals (I:Inv X ac σ H s)(h:j7 k X.K H a xs):∃its:List Value,aT xs its/\ir k s.heap a its.toArray/\xs.length<=sizeLine:=by
 cases k
 ·exact I.tuple h
 ·obtain⟨its,r,p,z⟩:=I.list h;exact⟨its,r,p.isList,z⟩
theorem j7.inj (I:Inv X ac σ H s)(h:j7 k X.K H a xs)(h':j7 k X.K H a ys):xs=ys:=by
 cases k
 ·exact I.tuple_inj h h'
 ·exact I.list_inj h h'
section
variable {prog:Program}{w:World}{A:Around}{E:Value->Shared->Prop}{s:Shared}
theorem e7 (st:iD k s.heap it l i)(ht:ir k s.heap l am)(hv:am[i]? = some v)
  (q:∀h',iD k h' it l (i+1)->Heap.SameBut it s.heap h'->Q v { s with heap:=h' }):wpAny (model prog w) A (Builtin.SmallTypes.nextOf (.ref it)) Q E s:=by
 cases k
 ·exact qG st ht hv q
 ·exact wpAny_nextOf_list_item st ht hv q
theorem iO (hA:A.handled=none)(st:iD k s.heap it l i)(ht:ir k s.heap l am)(hv:am[i]? = none)
  (q:∀h' x,Heap.ExtBut it s.heap h'->(∃o,h'.get? x=some o/\o.cls=.type "StopIteration")->E (.ref x) { s with heap:=h' }):wpAny (model prog w) A (Builtin.SmallTypes.nextOf (.ref it)) Q E s:=by
 cases k
 ·exact tK hA st ht hv q
 ·exact wpAny_nextOf_list_end hA st ht hv q
end
noncomputable def FF (k:Bool)(l:Addr):Obj:={ cls:=.type (if k=true then "list_iterator" else "tuple_iterator"),data:=.fields #[.ref l,.int 0 0] }
theorem si (ht:ir k s.heap l am)
  (q:Q (.ref s.heap.objs.size) { s with heap:=s.heap.push (FF k l) }):wpAny (model prog w) A (pyIter (.ref l)) Q E s:=by
 cases k
 ·exact wpAny_pyIter_tuple ht q
 ·exact wpAny_pyIter_list ht q
theorem ir.push (st:ir k h a am)(o:Obj):ir k (h.push o) a am:=st.upon λ_ e=>vZ _ e
section
variable (k1 k2:Bool) (h:Heap) (l1 l2:Addr)
abbrev zA:Heap:=h.push (FF k1 l1)
abbrev zB:Heap:=(zA k1 h l1).push (FF k2 l2)
abbrev zC:Heap:=(zB k1 k2 h l1 l2).push { cls:=.type "tuple",data:=.seq #[.ref h.objs.size,.ref (zA k1 h l1).objs.size] }
abbrev zD:Heap:=(zC k1 k2 h l1 l2).push { cls:=.type "tuple",data:=.seq #[.none,.none] }
abbrev zE:Heap:=(zD k1 k2 h l1 l2).push { cls:=.type "zip",data:=.fields #[.none,.bool false,.bool false,.ref (zB k1 k2 h l1 l2).objs.size,.ref (zC k1 k2 h l1 l2).objs.size] }
end
theorem qH (k1 k2:Bool)(l1 l2:Addr)(xs ys:Array Value):Meets (Builtin.«zip.__new__» ⟨[.type "zip",.ref l1,.ref l2],[]⟩) (λ_ R s=>ir k1 s.heap l1 xs/\ir k2 s.heap l2 ys /\
   R (.ok (.ret (.ref (zD k1 k2 s.heap l1 l2).objs.size))) { s with heap:=zE k1 k2 s.heap l1 l2 }) :=
 .of_wp λprog w A R s hs=>by
  obtain⟨hp,g,d,tk,os⟩:=s;obtain⟨q1,q2,hs⟩:=hs;have xA:=sub_zip;have p1:ir k1 (Shared.heap ⟨hp,g,d,tk,os⟩) l1 xs:=q1;have p2:ir k2 (Shared.heap ⟨hp.push (FF k1 l1),g,d,tk,os⟩) l2 ys:=ir.push q2 _;wp_walk using si p1,si p2;exact⟨_,rfl,hs⟩
section
variable {prog:Program}{w:World}{A:Around}{E:Value->Shared->Prop}{s:Shared}
theorem sj (q1:ir k1 s.heap l1 xs)(q2:ir k2 s.heap l2 ys)
  (q:∀h',IsZip h' (s.heap.objs.size+4) (s.heap.objs.size+2) (s.heap.objs.size+3) .none->IsPair h' (s.heap.objs.size+2) (.ref s.heap.objs.size) (.ref (s.heap.objs.size+1))->IsPair h' (s.heap.objs.size+3) .none .none ->
   iD k1 h' s.heap.objs.size l1 0->iD k2 h' (s.heap.objs.size+1) l2 0->(∀c o,s.heap.get? c=some o->h'.get? c=some o)->Q (.ref (s.heap.objs.size+4)) { s with heap:=h' }):
  wpAny (model prog w) A (call (.type "zip") [.ref l1,.ref l2]) Q E s:=by
 refine callType_new PySem.F.called_zip (by decide) (PySem.F.typeCall_zip_2 _ _) (PySem.F.newCall_zip_2 _ _) (λobj=>PySem.F.args_object_init_3 obj _ _) PySem.F.entry_zip_new (qH k1 k2 l1 l2 xs ys) ⟨q1,q2,?_⟩;have n1:(zA k1 s.heap l1).objs.size=s.heap.objs.size+1:=Heap.size_push ..;have n2:(zB k1 k2 s.heap l1 l2).objs.size=s.heap.objs.size+2:=by rw[Heap.size_push,n1]
 have n3:(zC k1 k2 s.heap l1 l2).objs.size=s.heap.objs.size+3:=by rw[Heap.size_push,n2]
 have n4:(zD k1 k2 s.heap l1 l2).objs.size=s.heap.objs.size+4:=by rw[Heap.size_push,n3]
 have u5:∀ {c o},(zD k1 k2 s.heap l1 l2).get? c=some o->(zE k1 k2 s.heap l1 l2).get? c=some o:=λe=>vZ _ e;have u4:∀ {c o},(zC k1 k2 s.heap l1 l2).get? c=some o->(zE k1 k2 s.heap l1 l2).get? c=some o:=λe=>u5 (vZ _ e);have u3:∀ {c o},(zB k1 k2 s.heap l1 l2).get? c=some o->(zE k1 k2 s.heap l1 l2).get? c=some o:=λe=>u4 (vZ _ e);have u2:∀ {c o},(zA k1 s.heap l1).get? c=some o->(zE k1 k2 s.heap l1 l2).get? c=some o:=λe=>u3 (vZ _ e);have u1:∀ {c o},s.heap.get? c=some o->(zE k1 k2 s.heap l1 l2).get? c=some o:=λe=>u2 (vZ _ e);have g5:(zE k1 k2 s.heap l1 l2).get? (zD k1 k2 s.heap l1 l2).objs.size=some _:=vY _ rfl;have g4:(zE k1 k2 s.heap l1 l2).get? (zC k1 k2 s.heap l1 l2).objs.size=some _:=u5 (vY _ rfl);have g3:(zE k1 k2 s.heap l1 l2).get? (zB k1 k2 s.heap l1 l2).objs.size=some _:=u4 (vY _ rfl);have g2:(zE k1 k2 s.heap l1 l2).get? (zA k1 s.heap l1).objs.size=some _:=u3 (vY _ (by cases k2<;>rfl))
 have g1:(zE k1 k2 s.heap l1 l2).get? s.heap.objs.size=some _:=u2 (vY _ (by cases k1<;>rfl))
 rw[n2,n3,n4]at g5;rw[n1,n2]at g3;rw[n3]at g4;rw[n1]at g2;show _/\_;rw[n4];refine⟨⟨_,g5,rfl⟩,q _ g5 g3 g4 ?_ ?_ λc o e=>u1 e⟩
 ·cases k1<;>exact⟨_,g1,rfl,rfl⟩
 ·cases k2<;>exact⟨_,g2,rfl,rfl⟩
structure ZApart (z TI TO i1 i2:Addr):Prop where
 tz:TI≠z
 oz:TO≠z
 az:i1≠z
 bz:i2≠z
 oa:TO≠i1
 ob:TO≠i2
 to:TI≠TO
 ta:TI≠i1
 tb:TI≠i2
 ab:i1≠i2
theorem oV {k1 k2:Bool}{z TI TO i1 i2 l1 l2:Addr}{j:Nat}{xs ys:Array Value}{x y a b:Value}{Q:Value->Shared->Prop}(D:ZApart z TI TO i1 i2)(m1:l1≠z/\l1≠TO/\l1≠i1)(m2:l2≠z/\l2≠TO/\l2≠i1/\l2≠i2)
  (hz:IsZip s.heap z TI TO .none) (hI:IsPair s.heap TI (.ref i1) (.ref i2)) (hO:IsPair s.heap TO a b) (t1:iD k1 s.heap i1 l1 j) (t2:iD k2 s.heap i2 l2 j) (q1:ir k1 s.heap l1 xs) (q2:ir k2 s.heap l2 ys) (hx:xs[j]? = some x) (hy:ys[j]? = some y)
  (q:∀h',IsZip h' z TI TO (rawInt s.heap.objs.size)->IsPair h' TO x y->iD k1 h' i1 l1 (j+1)->iD k2 h' i2 l2 (j+1)->IsPair h' s.heap.objs.size x y->h'.objs.size=s.heap.objs.size+1 ->
   (∀c o,c≠z->c≠TO->c≠i1->c≠i2->s.heap.get? c=some o->h'.get? c=some o)->Q (.ref s.heap.objs.size) { s with heap:=h' }):
  wpAny (model prog w) A (Builtin.«zip.__next__» ⟨[.ref z],[]⟩) (λg6 s'=>∃v,g6=.done (.ret v)/\Q v s') E s:=by
 show wpAny _ _ (field (.ref z) 2>>=_) _ _ s;refine wX (wpAny_field hz rfl (x:=.bool false) rfl ?_);show wpAny _ _ (field (.ref z) 3>>=_) _ _ s;refine wX (wpAny_field hz rfl (x:=.ref TI) rfl (wX (wpAny_seqItems hI rfl ?_)));show wpAny _ _ (Builtin.SmallTypes.ownedTupleIsFree (.ref z)>>=_) _ _ s;refine wX ?_;unfold Builtin.SmallTypes.ownedTupleIsFree;refine wX (wpAny_field hz rfl (x:=.none) rfl (wY ?_));simp only[if_true];refine wX (wpAny_rule (wX (wpAny_field hz rfl (x:=.ref TO) rfl (wX (wpAny_setField_rec hz (by simp) λg1 hz1 s1=>?_)))));replace hz1:IsZip g1 z TI TO .ellipsis:=hz1;refine wX ?_;simp only[List.forIn_cons,List.forIn_nil,List.zipIdx_cons,List.zipIdx_nil];refine wX (wX (wpAny_onRaise ?_));show wpAny _ _ (Builtin.SmallTypes.nextOf (.ref i1)>>=_) _ _ { s with heap:=g1 };refine wX (e7 (s:={ s with heap:=g1 }) (t1.upon λo e=>s1.extBut _ _ D.az e) (q1.upon λo e=>s1.extBut _ _ m1.1 e) hx λg2 t12 s2=>wY ?_);have EV:IsPair g2 TO a b:=s2.extBut _ _ D.oa (s1.extBut _ _ D.oz hO);refine wX (wpAny_seqItems EV rfl (wX (wpAny_updateSeq_pair EV λg3 hO3 s3=>?_)));replace hO3:IsPair g3 TO x b:=hO3;refine wX (wpAny_letGo (wY (wX (wX (wpAny_onRaise ?_)))));show wpAny _ _ (Builtin.SmallTypes.nextOf (.ref i2)>>=_) _ _ { s with heap:=g3 };have Co:∀ {c o},c≠z->c≠TO->c≠i1->s.heap.get? c=some o->g3.get? c=some o:=λc1 c2 c3 e=>s3.extBut _ _ c2 (s2.extBut _ _ c3 (s1.extBut _ _ c1 e));refine wX (e7 (s:={ s with heap:=g3 }) (t2.upon λo e=>Co D.bz D.ob.symm D.ab.symm e) (q2.upon λo e=>Co m2.1 m2.2.1 m2.2.2.1 e) hy λg4 t24 s4=>wY ?_);have Jp:IsPair g4 TO x b:=s4.extBut _ _ D.ob hO3;refine wX (wpAny_seqItems Jp rfl (wX (wpAny_updateSeq_pair Jp λg5 hO5 s5=>?_)));replace hO5:IsPair g5 TO x y:=hO5;refine wX (wpAny_letGo (wY (wY (wX (wpAny_seqItems hO5 rfl (wX (wpAny_newTuple ?_)))))));have sz:g5.objs.size=s.heap.objs.size:=by rw[s5.1,s4.1,s3.1,s2.1,s1.1]
 have Lk:∀c o,c≠z->c≠TO->c≠i1->c≠i2->s.heap.get? c=some o->g5.get? c=some o:=λc o c1 c2 c3 c4 e=>s5.extBut _ _ c2 (s4.extBut _ _ c4 (Co c1 c2 c3 e));have Jq:IsZip g5 z TI TO .ellipsis:=s5.extBut _ _ D.oz.symm (s4.extBut _ _ D.bz.symm (s3.extBut _ _ D.oz.symm (s2.extBut _ _ D.az.symm hz1)));have Ll:iD k1 g5 i1 l1 (j+1):=t12.upon λo e=>s5.extBut _ _ D.oa.symm (s4.extBut _ _ D.ab (s3.extBut _ _ D.oa.symm e));have Lm:iD k2 g5 i2 l2 (j+1):=t24.upon λo e=>s5.extBut _ _ D.ob.symm e;have Jr:z<g5.objs.size:=vX Jq;show wpAny _ _ (Builtin.SmallTypes.ownedTupleHandOut (.ref z) (.ref g5.objs.size)>>=_) _ _ { s with heap:=g5.push { cls:=.type "tuple",data:=.seq #[x,y] } };refine wX ?_;unfold Builtin.SmallTypes.ownedTupleHandOut;have Ln:IsZip (g5.push { cls:=.type "tuple",data:=.seq #[x,y] }) z TI TO .ellipsis:=vZ _ Jq;refine wX (wpAny_setField_rec Ln (by simp) λg7 hz7 s7=>?_);replace hz7:IsZip g7 z TI TO (rawInt g5.objs.size):=hz7;refine wpAny_setField_rec hz7 (by simp) λg8 hz8 s8=>?_;replace hz8:IsZip g8 z TI TO (rawInt g5.objs.size):=hz8;have Gc:∀c o,c≠z->g5.get? c=some o->g8.get? c=some o:=λc o c1 e=>s8.extBut _ _ c1 (s7.extBut _ _ c1 (vZ _ e));have Js:IsPair g8 g5.objs.size x y:=s8.extBut _ _ (Nat.ne_of_gt Jr) (s7.extBut _ _ (Nat.ne_of_gt Jr) (vY _ rfl));have Jt:g8.objs.size=g5.objs.size+1:=by rw[s8.1,s7.1,Heap.size_push]
 rw[sz]at hz8 Js Jt;refine wY ⟨_,rfl,?_⟩;show Q (.ref g5.objs.size) _;rw[sz];exact q g8 hz8 (Gc _ _ D.oz hO5) (Ll.upon λo e=>Gc _ o D.az e) (Lm.upon λo e=>Gc _ o D.bz e) Js Jt λc o c1 c2 c3 c4 e=>Gc c o c1 (Lk c o c1 c2 c3 c4 e)
end
section
variable {prog:Program}{w:World}{A:Around}{E:Value->Shared->Prop}{s:Shared}
theorem sk {k1 k2:Bool}{z TI TO i1 i2 l1 l2:Addr}{j:Nat}{xs ys:Array Value}{a b:Value}{Q:PySem.Fin->Shared->Prop}(hA:A.handled=none)(D:ZApart z TI TO i1 i2)(m1:l1≠z/\l1≠TO/\l1≠i1)(m2:l2≠z/\l2≠TO/\l2≠i1/\l2≠i2)
  (hz:IsZip s.heap z TI TO .none) (hI:IsPair s.heap TI (.ref i1) (.ref i2)) (hO:IsPair s.heap TO a b) (t1:iD k1 s.heap i1 l1 j) (t2:iD k2 s.heap i2 l2 j) (q1:ir k1 s.heap l1 xs) (q2:ir k2 s.heap l2 ys) (he:xs[j]? = none∨ys[j]? = none)
  (q:∀h' x,(∀c o,c≠z->c≠TO->c≠i1->c≠i2->s.heap.get? c=some o->h'.get? c=some o)->(∃o,h'.get? x=some o/\o.cls=.type "StopIteration")->E (.ref x) { s with heap:=h' }):
  wpAny (model prog w) A (Builtin.«zip.__next__» ⟨[.ref z],[]⟩) Q E s:=by
 show wpAny _ _ (field (.ref z) 2>>=_) _ _ s;refine wX (wpAny_field hz rfl (x:=.bool false) rfl ?_);show wpAny _ _ (field (.ref z) 3>>=_) _ _ s;refine wX (wpAny_field hz rfl (x:=.ref TI) rfl (wX (wpAny_seqItems hI rfl ?_)));show wpAny _ _ (Builtin.SmallTypes.ownedTupleIsFree (.ref z)>>=_) _ _ s;refine wX ?_;unfold Builtin.SmallTypes.ownedTupleIsFree;refine wX (wpAny_field hz rfl (x:=.none) rfl (wY ?_));simp only[if_true];refine wX (wpAny_rule (wX (wpAny_field hz rfl (x:=.ref TO) rfl (wX (wpAny_setField_rec hz (by simp) λg1 hz1 s1=>?_)))));replace hz1:IsZip g1 z TI TO .ellipsis:=hz1;refine wX ?_;simp only[List.forIn_cons,List.forIn_nil,List.zipIdx_cons,List.zipIdx_nil];refine wX (wX (wpAny_onRaise ?_));show wpAny _ _ (Builtin.SmallTypes.nextOf (.ref i1)>>=_) _ _ { s with heap:=g1 };cases hx:xs[j]? with
 |none=>
  refine wX (iO (s:={ s with heap:=g1 }) hA (t1.upon λo e=>s1.extBut _ _ D.az e) (q1.upon λo e=>s1.extBut _ _ m1.1 e) hx λg2 x s2 hX=>?_);obtain⟨oU,eX,cX⟩:=hX;have Gd:IsZip g2 z TI TO .ellipsis:=s2 _ _ D.az.symm hz1;have nz:x≠z:=λz'=>by subst z';rw[Gd]at eX;cases eX;simp at cX
  exact wpAny_setField_rec Gd (by simp) λg3 _ s3=>q g3 x (λc o c1 _ c3 _ e=>s3.extBut _ _ c1 (s2 _ _ c3 (s1.extBut _ _ c1 e))) ⟨oU,s3.extBut _ _ nz eX,cX⟩
 |some v=>
  have hy:ys[j]? = none:=by
   rcases he with h|h
   ·rw[hx]at h;cases h
   ·exact h
  refine wX (e7 (s:={ s with heap:=g1 }) (t1.upon λo e=>s1.extBut _ _ D.az e) (q1.upon λo e=>s1.extBut _ _ m1.1 e) hx λg2 t12 s2=>wY ?_);have EV:IsPair g2 TO a b:=s2.extBut _ _ D.oa (s1.extBut _ _ D.oz hO);refine wX (wpAny_seqItems EV rfl (wX (wpAny_updateSeq_pair EV λg3 hO3 s3=>?_)));refine wX (wpAny_letGo (wY (wX (wX (wpAny_onRaise ?_)))));show wpAny _ _ (Builtin.SmallTypes.nextOf (.ref i2)>>=_) _ _ { s with heap:=g3 };have Co:∀ {c o},c≠z->c≠TO->c≠i1->s.heap.get? c=some o->g3.get? c=some o:=λc1 c2 c3 e=>s3.extBut _ _ c2 (s2.extBut _ _ c3 (s1.extBut _ _ c1 e));refine wX (iO (s:={ s with heap:=g3 }) hA (t2.upon λo e=>Co D.bz D.ob.symm D.ab.symm e) (q2.upon λo e=>Co m2.1 m2.2.1 m2.2.2.1 e) hy λg4 x s4 hX=>?_);obtain⟨oU,eX,cX⟩:=hX;have Ju:IsZip g4 z TI TO .ellipsis:=s4 _ _ D.bz.symm (s3.extBut _ _ D.oz.symm (s2.extBut _ _ D.az.symm hz1));have nz:x≠z:=λz'=>by subst z';rw[Ju]at eX;cases eX;simp at cX
  exact wpAny_setField_rec Ju (by simp) λg5 _ s5=>q g5 x (λc o c1 c2 c3 c4 e=>s5.extBut _ _ c1 (s4 _ _ c4 (Co c1 c2 c3 e))) ⟨oU,s5.extBut _ _ nz eX,cX⟩
end
theorem nG {X:Cx}{ac:List (Addr×Obj)}{σ:St}{H:Hp}{s:Shared}{h':Heap}{t':Nat}{ch:List Addr}(I:Inv X ac σ H s)(f:∀b∈ch,iJ X ac H b)(k:∀b o,b∉ch->s.heap.get? b=some o->h'.get? b=some o):Inv X ac σ H { s with heap:=h',toks:=t' }:=by
 have A5:∀b u,H b=some u->b∉ch:=λb u e z=>by rw[(f b z).1]at e;cases e
 refine I.step (g':=s.gens) (d':=s.drawn) (ch:=ch) (λb hb=>?_) (λb o _ _ hc e _=>k b o hc e) (λb o _ _ hc e _=>⟨o.slots,k b o hc e⟩) (λ_ _ _ _ n=>n)
  (λb o hc e=>⟨o,k b o hc e⟩) (λ_ _ e=>e) (λ_ _ _ e=>e) (λ_ _ e=>e) (λm hm=>?_) (λb u e=>?_) I.bare
 ·obtain⟨_,f1,_,f3,f4,f5⟩:=f b hb;exact⟨f3,f1,f4,f5⟩
 ·obtain⟨o,es,ep,ho,r⟩:=hm;exact⟨o,es,ep,k _ o (λz=>(f _ z).2.1 rfl) ho,r⟩
 ·refine(I.hok b u e).stay (λc v hc q=>k c v ?_ q) (λ_ q=>q) (λ_ _ q=>q) λ_ _ _ q=>q;rcases hc with z|z
  ·rw[z];exact A5 b u e
  ·exact A5 c _ z
theorem Al {X:Cx}{ac:List (Addr×Obj)}{σ:St}{H:Hp}{s:Shared}{h':Heap}{t':Nat}{ch:List Addr}{a:Addr}{ob:HO}(I:Inv X ac σ H s)(f:∀b∈ch,iJ X ac H b)(k:∀b o,b∉ch->s.heap.get? b=some o->h'.get? b=some o)(ha:s.heap.objs.size<=a)
  (new:bD X.prog X.w (upd H a ob) h' a ob):Inv X ac σ (upd H a ob) { s with heap:=h',toks:=t' }:=by
 have hn:H a=none:=I.hok.fresh ha;have A5:∀b u,H b=some u->b∉ch:=λb u e z=>by rw[(f b z).1]at e;cases e
 have na:∀b o,s.heap.get? b=some o->b≠a:=λb o e=>vS (vQ (vX e) ha);refine I.step (g':=s.gens) (d':=s.drawn) (ch:=ch) (λb hb=>?_) (λb o _ _ hc e _=>k b o hc e) (λb o _ _ hc e _=>⟨o.slots,k b o hc e⟩) (λb o _ e n=>by rw[au (na b o e)];exact n)
  (λb o hc e=>⟨o,k b o hc e⟩) (λb xs e=>by rw[au (aP e hn)];exact e) (λb o u e=>by rw[au (aP e hn)];exact e) (λb ps e=>by rw[au (aP e hn)];exact e) (λm hm=>?_) (λb u e=>?_) I.bare
 ·obtain⟨_,f1,_,f3,f4,f5⟩:=f b hb;exact⟨f3,f1,f4,f5⟩
 ·obtain⟨o,es,ep,ho,r⟩:=hm;exact⟨o,es,ep,k _ o (λz=>(f _ z).2.1 rfl) ho,r⟩
 ·by_cases hb:b=a
  ·subst hb;rw[aw]at e;cases e;exact new
  ·rw[au hb]at e;refine(I.hok b u e).stay (λc v hc q=>k c v ?_ q) (λc q=>?_) (λc xs q=>?_) λc o xs q=>?_
   ·rcases hc with z|z
    ·rw[z];exact A5 b u e
    ·exact A5 c _ z
   ·rw[au (aP q hn)];exact q
   ·rw[au (aP q hn)];exact q
   ·rw[au (aP q hn)];exact q
noncomputable def GK (K:Frag)(k1 k2:Bool)(a1 a2:Addr):It :=
  ⟨λi H=>∃xs ys x y,j7 k1 K H a1 xs/\j7 k2 K H a2 ys/\xs[i]? = some x/\ys[i]? = some y,
   λi H v H'=>∃T x y,v=.ref T/\H T=none/\H'=upd H T (.tup [x,y])/\(∀xs,j7 k1 K H a1 xs->xs[i]? = some x)/\(∀ys,j7 k2 K H a2 ys->ys[i]? = some y),
   λi H=>∃xs ys,j7 k1 K H a1 xs/\j7 k2 K H a2 ys/\(xs.length<=i∨ys.length<=i)⟩
theorem vE {P:Program}{w:World}{K:Frag}{es:List Expr}{kt:Nat}{pt:Pos}{k1 k2:Bool}{a1 a2 z TI TO i1 i2:Addr}(D:ZApart z TI TO i1 i2)(m1:a1≠z/\a1≠TO/\a1≠i1)(m2:a2≠z/\a2≠TO/\a2≠i1/\a2≠i2):
  Turn P w K (.Tuple es kt pt) (GK K k1 k2 a1 a2) [z,TI,TO,i1,i2] z (λi h=>IsZip h z TI TO .none/\IsPair h TI (.ref i1) (.ref i2)/\(∃a b,IsPair h TO a b)/\iD k1 h i1 a1 i/\iD k2 h i2 a2 i) where
 mem:=by simp
 obj:=λi h st b hb=>by
  obtain⟨hz,hI,⟨a,c,hO⟩,t1,t2⟩:=st;simp at hb;rcases hb with rfl|rfl|rfl|rfl|rfl
  ·exact⟨_,hz,λv z=>by cases z⟩
  ·exact⟨_,hI,λv z=>by cases z⟩
  ·exact⟨_,hO,λv z=>by cases z⟩
  ·exact t1.ob
  ·exact t2.ob
 keep:=λi h h' st k=>by
  obtain⟨hz,hI,⟨a,c,hO⟩,t1,t2⟩:=st;exact⟨k z (by simp) _ hz,k TI (by simp) _ hI,⟨a,c,k TO (by simp) _ hO⟩,t1.upon λo e=>k i1 (by simp) o e,t2.upon λo e=>k i2 (by simp) o e⟩
 item:=by
  intro X hP hw hK hc i ac s σ H E I hf st hg;subst hP hw hK;obtain⟨hz,hI,⟨a,c,hO⟩,t1,t2⟩:=st;obtain⟨xs,ys,x,y,q1,q2,hx,hy⟩:=hg;obtain⟨its,r1,p1,z1⟩:=q1.vals I;obtain⟨lT,r2,p2,z2⟩:=q2.vals I;obtain⟨u,hu,ru⟩:=r1.get hx;obtain⟨v,hv,rv⟩:=r2.get hy;have hT:s.TypeIs (.ref z) "zip":=⟨_,hz,rfl⟩;have fresh:H s.heap.objs.size=none:=I.hok.fresh (vT _);have lt:∀ {c o},s.heap.get? c=some o->c≠s.heap.objs.size:=λe=>vS (vX e);have l1:i1≠s.heap.objs.size:=by obtain⟨o,e,_⟩:=t1.ob;exact lt e
  have l2:i2≠s.heap.objs.size:=by obtain⟨o,e,_⟩:=t2.ob;exact lt e
  unfold pyNext;refine wX (wpAny_attempt (wpAny_callSpecial?_slot (name:=Str.ofString "__next__") hT PySem.F.slot_zip_next (wpAny_call_entry PySem.F.slot_zip_next hT PySem.F.entry_zip_next (oV D m1 m2 hz hI hO t1 t2 p1 p2 (by simpa using hu) (by simpa using hv) λh' b1 b2 b3 b4 b5 b6 bk=>wY ?_) (PySem.F.args_zip_next_1 _))));refine⟨_,rfl,wpAny_letOwnedTupleGo_zip (s:={ s with heap:=h' }) b1 λh2 c1 s2=>?_⟩;have CP:Heap.SameBut z h' h2:=s2;have kk:∀b o,b∉[z,TI,TO,i1,i2]->s.heap.get? b=some o->h2.get? b=some o:=λb o hb e=>
   CP.extBut _ _ (λq=>hb (by simp[q])) (bk b o (λq=>hb (by simp[q])) (λq=>hb (by simp[q])) (λq=>hb (by simp[q])) (λq=>hb (by simp[q])) e)
  have I1:Inv X ac σ H { s with heap:=h2 }:=nG (t':=s.toks) I hf kk;have zT:s.heap.objs.size≠z:=(lt hz).symm;have new:bD X.prog X.w (upd H s.heap.objs.size (.tup [x,y])) h2 s.heap.objs.size (.tup [x,y]):=⟨by show 2<=sizeLine;decide,[u,v],.cons ru (.cons rv .nil),⟨_,CP.extBut _ _ zT b5,rfl,_,rfl⟩⟩;refine⟨.ref s.heap.objs.size,upd H s.heap.objs.size (.tup [x,y]),?_,rfl,⟨_,x,y,rfl,fresh,rfl,λzs hq=>by rw[j7.inj I hq q1];exact hx,λzs hq=>by rw[j7.inj I hq q2];exact hy⟩,?_,λb hb=>?_⟩
  ·exact Al (s:=s) (t':=s.toks) I hf kk (vT _) new
  ·exact⟨c1,CP.extBut _ _ D.tz (bk _ _ D.tz D.to D.ta D.tb hI),⟨_,_,CP.extBut _ _ D.oz b2⟩,b3.upon λo e=>CP.extBut _ _ D.az e,b4.upon λo e=>CP.extBut _ _ D.bz e⟩
  ·have xO:b≠s.heap.objs.size:=by
    simp at hb;rcases hb with rfl|rfl|rfl|rfl|rfl
    ·exact lt hz
    ·exact lt hI
    ·exact lt hO
    ·exact l1
    ·exact l2
   rw[au xO];exact(hf b hb).1
 done:=by
  intro X hP hw hK hc i ac s σ H E I hf st hg;subst hP hw hK;obtain⟨hz,hI,⟨a,c,hO⟩,t1,t2⟩:=st;obtain⟨xs,ys,q1,q2,hl⟩:=hg;obtain⟨its,r1,p1,z1⟩:=q1.vals I;obtain⟨lT,r2,p2,z2⟩:=q2.vals I;have hT:s.TypeIs (.ref z) "zip":=⟨_,hz,rfl⟩;have n1:=r1.length;have n2:=r2.length;unfold pyNext;refine wX (wpAny_attempt (wpAny_callSpecial?_slot (name:=Str.ofString "__next__") hT PySem.F.slot_zip_next (wpAny_call_entry PySem.F.slot_zip_next hT PySem.F.entry_zip_next (sk (I.ok.hd hc) D m1 m2 hz hI hO t1 t2 p1 p2 (hl.imp (λq=>by simp;omega) λq=>by simp;omega) λh' x hk hX=>?_) (PySem.F.args_zip_next_1 _))));obtain⟨o,eo,co⟩:=hX;refine wX (wpAny_isInstance (T:="StopIteration") (b:=true) ⟨o,eo,co⟩ isSubtype_stop (wY ⟨rfl,?_⟩));exact nG (t':=s.toks) I hf λb o hb e=>hk b o (λq=>hb (by simp[q])) (λq=>hb (by simp[q])) (λq=>hb (by simp[q])) (λq=>hb (by simp[q])) e
 self:=λ_ _ _ _ _ st h=>wpAny_pyIter_zip st.1 h
section
variable {X:Cx}{a b e:Expr}{pos:Pos}{p:Pos}
theorem Am:bootBuiltins "zip" = some (.type "zip"):=by decide +kernel
def DT (K:Frag)(ta:TA):TI:=λσ H R=>ta σ H λvs H1=>∃(k1 k2:Bool)(l1 l2:Addr)(xs ys:List V),vs=[.ref l1,.ref l2]/\j7 k1 K H1 l1 xs/\j7 k2 K H1 l2 ys/\R (GK K k1 k2 l1 l2) H1
theorem BA {es:List Expr}{kt:Nat}{pt:Pos}{ta:TA}(hg:Gl X "zip")(hm:X.mg "zip" = none)(ha:PA X [a,b] ta)(hs:starEach [a,b] X.env=[(false,eval a X.env),(false,eval b X.env)]:=by rfl)(lE:starEach [b] X.env=[(false,eval b X.env)]:=by rfl):
  PI X (.Tuple es kt pt) (.Call (.Name "zip" p) [a,b] [] pos) (DT X.K ta):=by
 intro ac s σ H R I h;refine Call_ (g9 I hg hm Am (PyProof.Rows.callWith_type1 (bY (ha pos ac s σ H _ I h) λus s1 ⟨vs,H1,I1,r1,q1⟩=>?_) (by rw[hs,lE]) (by rw[lE];rfl)));obtain⟨k1,k2,l1,l2,xs,ys,rfl,h1,h2,q⟩:=q1;obtain⟨u1,u2,rfl,HF,HG⟩:=r1.two;cases HF
 cases HG
 obtain⟨its,v1,p1,z1⟩:=h1.vals I1;obtain⟨lT,v2,p2,z2⟩:=h2.vals I1;have zf:=p1.lt;have zF:=p2.lt;refine sj p1 p2 λh' c1 c2 c3 c4 c5 ck=>?_;have D:ZApart (s1.heap.objs.size+4) (s1.heap.objs.size+2) (s1.heap.objs.size+3) s1.heap.objs.size (s1.heap.objs.size+1):=by
  constructor<;>(intro z;exact absurd z (by first|exact vS (Nat.add_lt_add_left (by decide) _)|exact Nat.ne_of_gt (Nat.add_lt_add_left (by decide) _)|exact vS (Nat.lt_add_of_pos_right (by decide))|exact Nat.ne_of_gt (Nat.lt_add_of_pos_right (by decide))))
 have nf:∀ {l:Addr}(n:Nat),l<s1.heap.objs.size->l≠s1.heap.objs.size+n:=λn hl=>vS (vQ hl (Nat.le_add_right _ n));refine wpAny_pyIter_zip c1 ⟨s1.heap.objs.size+4,[s1.heap.objs.size+4,s1.heap.objs.size+2,s1.heap.objs.size+3,s1.heap.objs.size,s1.heap.objs.size+1],_,_,H1,rfl,I1.kept (t':=s1.toks) ck,
  vE D ⟨nf 4 zf,nf 3 zf,nf 0 zf⟩ ⟨nf 4 zF,nf 3 zF,nf 0 zF,nf 1 zF⟩,⟨c1,c2,⟨_,_,c3⟩,c4,c5⟩,λb hb=>?_,q⟩
 have zG:s1.heap.objs.size<=b:=by
  simp at hb;rcases hb with rfl|rfl|rfl|rfl|rfl
  ·exact Nat.le_add_right _ 4
  ·exact Nat.le_add_right _ 2
  ·exact Nat.le_add_right _ 3
  ·exact vT _
  ·exact Nat.le_add_right _ 1
 exact I1.fpOk zG (I1.hok.fresh zG)
noncomputable def fB (xs ys:List D):List D:=List.zipWith (λx y=>.tup [x,y]) xs ys
@[simp] def vK (fa fb:FE):FA:=λρ=>(fa ρ).bind λx=>(fb ρ).bind λy=>(gn x.1).bind λxs=>(gn y.1).map λys=>fB xs ys
theorem oW {K:Frag}{B:Hp}{v:V}{d:D}{ds:List D}(h:Is K B v d)(e:gn d=some ds):∃k a vs,v=.ref a/\j7 k K B a vs/\IsL K B vs ds:=by
 cases h with
 |tup ht hl=>cases e;exact⟨false,_,_,rfl,ht,hl⟩
 |lst ht hl=>cases e;exact⟨true,_,_,rfl,ht,hl⟩
 |_=>cases e
theorem BB {H s}(I:Inv X ac σ H s)(h1:j7 k1 X.K N l1 vs)(i1:IsL X.K N vs ds)(h2:j7 k2 X.K N l2 ws)(i2:IsL X.K N ws es):lJ X.K (GK X.K k1 k2 l1 l2) N (fB ds es):=by
 intro i H' sm;have n1:=i1.length;have n2:=i2.length;refine⟨λd ed=>?_,λhl=>⟨vs,ws,h1.same sm,h2.same sm,?_⟩⟩
 ·unfold fB at ed;rw[List.getElem?_zipWith]at ed;cases e1:ds[i]? with
  |none=>rw[e1]at ed;simp at ed
  |some x=>
   cases e2:es[i]? with
   |none=>rw[e1,e2]at ed;simp at ed
   |some y=>
    rw[e1,e2]at ed;simp at ed;subst ed;obtain⟨v,ev,iv⟩:=i1.get e1;obtain⟨w,ew,iw⟩:=i2.get e2;refine⟨⟨vs,ws,v,w,h1.same sm,h2.same sm,ev,ew⟩,λr H2 hy=>?_⟩;obtain⟨T,v',w',rfl,hT,rfl,f1,f2⟩:=hy;have e3:=f1 vs (h1.same sm);have e4:=f2 ws (h2.same sm);rw[ev]at e3;cases e3;rw[ew]at e4;cases e4;have xt:=Ext.laid (o:=.tup [v,w]) sm hT;exact⟨_,xt,.tup (gc.of aw) (.cons (iv.mono xt.bn) (.cons (iw.mono xt.bn) .nil))⟩
 ·unfold fB at hl;rw[List.length_zipWith]at hl;omega
theorem vM {es:List Expr}{kt:Nat}{pt:Pos}{fa fb:FE}(hm:X.mg "zip" = none)(ha:JE X a fa)(hb:JE X b fb)(hg:Gl X "zip":=by rfl)(hs:starEach [a,b] X.env=[(false,eval a X.env),(false,eval b X.env)]:=by rfl)(lE:starEach [b] X.env=[(false,eval b X.env)]:=by rfl):
  JI X (.Tuple es kt pt) (.Call (.Name "zip" p) [a,b] [] pos) (vK fa fb):=by
 intro ac s σ H R I q;refine BA hg hm (ag ha (ag hb ae lE) (by rw[hs,lE])) hs lE ac s σ H R I ?_;obtain⟨B,ρ,ds,sB,r,ee,q⟩:=q;obtain⟨x1,ex,ee⟩:=oX ee;obtain⟨y1,ey,ee⟩:=oX ee;obtain⟨xs,HH,ee⟩:=oX ee;obtain⟨ys,HI,ee⟩:=oY ee;subst ee;refine⟨B,ρ,[x1.1,y1.1],sB,r,by simp[aa,af,ex,ey],λvs H1 N1 xt i1=>?_⟩;cases i1 with
 |cons j1 j2=>
  cases j2 with
  |cons j2 j3=>
   cases j3
   obtain⟨k1,l1,us,rfl,s1,m1⟩:=oW j1 HH;obtain⟨k2,l2,ws,rfl,s2,m2⟩:=oW j2 HI;exact⟨k1,k2,l1,l2,us,ws,rfl,s1.same xt.nh,s2.same xt.nh,q _ H1 N1 xt (BB I s1 m1 s2 m2)⟩
end
@[simp] noncomputable def jq:FS:=λ_=>none
section
variable {X:Cx}{pos:Pos}
theorem oZ {st:Stmt}:JS X st jq:=λac s σ H E I q=>by
 obtain⟨B0,H0,ρ,r,_,e,_⟩:=q;cases e
end
inductive CRows (K:Frag)(P:Params):List DictEntry->List (Str×D)->Prop where
 |nil:CRows K P [] []
 |tup {x:Str}{t:Tok}{h:Int}{a:Addr}{its:Array Value}{n:Nat}{jz:Array (Option Value)}{ds:List D}{r:List DictEntry}{b9:List (Str×D)}(hh:h=PyData.keyHash P x)
   (l:K.lookup a=some ⟨.type "tuple",none,.seq its n,jz⟩) (f:(decide (its.size<=1000) && gi its.toList ds)=true) (tl:CRows K P r b9):CRows K P (⟨h,.str x t,.ref a⟩::r) ((x,.tup ds)::b9)
 |flat {x:Str}{t:Tok}{h:Int}{u:Value}{d:D}{r:List DictEntry}{b9:List (Str×D)}(hh:h=PyData.keyHash P x) (f:nF u d=true) (tl:CRows K P r b9):CRows K P (⟨h,.str x t,u⟩::r) ((x,d)::b9)
theorem CRows.lit {K:Frag}{P:Params}:∀ {es:List DictEntry}{b9:List (Str×D)},CRows K P es b9->PySem.W.KeysLit P es
 |_,_,.nil=>trivial
 |_,_,.tup hh _ _ tl=>⟨⟨_,_,rfl,hh⟩,tl.lit⟩
 |_,_,.flat hh _ tl=>⟨⟨_,_,rfl,hh⟩,tl.lit⟩
theorem CRows.find {K:Frag}{P:Params}(y:Str):∀ {es:List DictEntry}{b9:List (Str×D)},CRows K P es b9->match b9.lookup y with
  |none=>es.find? (λe=>Value.isStrOf y e.key)=none
  |some d=>∃e v,es.find? (λe=>Value.isStrOf y e.key)=some e/\aI v e.val/\∀B,Is K B v d
 |_,_,.nil=>rfl
 |_,_,.tup (x:=x) (t:=t) (a:=a) (ds:=ds) hh l f tl=>by
  by_cases e:y=x
  ·subst e;rw[List.lookup_cons_self];rw[vC]at f;obtain⟨vs,r,i⟩:=gj (K:=K) f.2;exact⟨_,.ref a,List.find?_cons_of_pos (by simp[Value.isStrOf]),rfl,λB=>.tup (.inr ⟨_,_,_,l,rfl,rfl,Nat.le_of_lt (Nat.lt_of_le_of_lt (of_decide_eq_true f.1) (by decide)),r⟩) (i B)⟩
  ·have ih:=tl.find y;rw[List.lookup_cons,beq_eq_false_iff_ne.mpr e];have nf:Value.isStrOf y (Value.str x t)=false:=by
    rw[Bool.eq_false_iff];intro z;obtain⟨t',q⟩:=Value.isStrOf_shape z;injection q with q1;exact e q1.symm
   simp only[List.find?_cons,nf];exact ih
 |_,_,.flat (x:=x) (t:=t) (u:=u) (d:=d) hh f tl=>by
  by_cases e:y=x
  ·subst e;rw[List.lookup_cons_self];obtain⟨v,r1,_⟩:=gV (K:=K) (B:=λ_=>none) f;refine⟨_,v,List.find?_cons_of_pos (by simp[Value.isStrOf]),r1,λB=>?_⟩;obtain⟨v',HE,i'⟩:=gV (K:=K) (B:=B) f;have:v'=v:=by have z1:=r1.abs;rw[HE.abs]at z1;exact vJ z1
   subst this;exact i'
  ·have ih:=tl.find y;rw[List.lookup_cons,beq_eq_false_iff_ne.mpr e];have nf:Value.isStrOf y (Value.str x t)=false:=by
    rw[Bool.eq_false_iff];intro z;obtain⟨t',q⟩:=Value.isStrOf_shape z;injection q with q1;exact e q1.symm
   simp only[List.find?_cons,nf];exact ih
def iP (K:Frag)(P:Params)(a:Addr)(b9:List (Str×D)):Prop:=∃es n,K.lookup a=some ⟨.type "dict",none,.dict es n,#[]⟩/\CRows K P es.toList b9/\(a == sysModules)=false
theorem const_dict {K:Frag}{P:Params}{y:Str}{a:Addr}{es:Array DictEntry}{n:Nat}{b9:List (Str×D)}(e:PySem.W.nsIn K mainGlobals y=some (some (.ref a)))(l:K.lookup a=some ⟨.type "dict",none,.dict es n,#[]⟩)(r:CRows K P es.toList b9)(s:(a == sysModules)=false):
  ∃a,PySem.W.nsIn K mainGlobals y=some (some (.ref a))/\iP K P a b9:=⟨a,e,es,n,l,r,s⟩
section
variable {X:Cx}{a b e:Expr}{pos:Pos}{x:Str}{p:Pos}
theorem iP.map {ac:List (Addr×Obj)}{σ:St}{H:Hp}{s:Shared}{d:Addr}{b9:List (Str×D)}(I:Inv X ac σ H s)(h:iP X.K X.w.params d b9):∃f:Str->Option Value,s.heap.MapOf (strKind X.prog X.w) d f/\(d == sysModules)=false /\
  ∀y,match b9.lookup y with|none=>f y=none|some dd=>∃u v,f y=some u/\aI v u/\∀B,Is X.K B v dd:=by
 obtain⟨es,n,l,r,sm⟩:=h;refine⟨_,PySem.W.mapOf_K I.kIn l r.lit,sm,λy=>?_⟩;have:=r.find y;have ff:findBy Value.isStrOf es y=(es.toList.find? λe=>Value.isStrOf y e.key).map (·.val):=by
  unfold findBy;obtain⟨es⟩:=es;rw[List.find?_toArray]
 cases hl:b9.lookup y with
 |none=>rw[hl]at this;dsimp only at this ⊢;rw[ff,this];rfl
 |some dd=>
  rw[hl]at this;obtain⟨en,v,e1,e2,e3⟩:=this;exact⟨en.val,v,by rw[ff,e1];rfl,e2,e3⟩
@[simp] noncomputable def iQ (b9:List (Str×D)):D->OB
 |.str y=>(b9.lookup y).map λd=>(d,false)
 |_=>none
@[simp] noncomputable def kD (b9:List (Str×D)):D->OB
 |.str y=>some (.bl (!(b9.lookup y).isSome),false)
 |_=>none
theorem nH (h:∃d,X.mg x=some (.ref d)/\iP X.K X.w.params d b9)(hb:JE X b f)(hg:Gl X x:=by rfl)(hd:(x == ("__debug__" : Str))=false:=by decide)(hs:jX b:=by intro _ _;rfl):JE X (.Subscript (.Name x p) b pos) (f1 (iQ b9) f):=by
 obtain⟨d,hm,cd⟩:=h;have ix:uK X (λx y H Q=>∃z dd,x=.ref d/\y=.str z/\b9.lookup z=some dd/\∀v,(∀B,Is X.K B v dd)->Q v H):=by
  intro value slice ac s σ H x y v u Q I rx ry q hs;obtain⟨z,dd,rfl,rfl,el,q⟩:=q;cases rx
  obtain⟨t,rfl⟩:=ry;obtain⟨f,hM,sm,hf⟩:=cd.map I;have:=hf z;rw[el]at this;obtain⟨u,v,e1,e2,e3⟩:=this;exact tail_any hM.typeIs slot_dict_getitem.lookup (wpAny_getItem_of (strKind_is X.prog X.w z t) hM e1 ⟨v,H,I.tok _,e2,q v e3⟩) hs
 refine PE.to (uL ix (dX (v:=.ref d) hg hm rfl hd) hb hs) λσ H Q q=>?_;obtain⟨B,ρ,d',bb,sB,r,ee,q⟩:=q;obtain⟨x1,ex,ee⟩:=oX ee;refine⟨B,ρ,x1.1,x1.2,sB,r,ex,λv H1 N1 xt i1 _=>?_⟩;obtain⟨xd,xb⟩:=x1;cases i1<;>try (simp[iQ]at ee;done)
 rename_i z _;simp only[iQ]at ee;obtain⟨dd,e1,e2⟩:=oY ee;cases e2
 exact⟨z,_,rfl,rfl,e1,λv hv=>(q.into xt).one xt.nh (hv _)⟩
@[simp] noncomputable def FH:List D->OB
 |[.lst ds]=>some (.lst ds,true)
 |[.tup ds]=>some (.lst ds,true)
 |_=>none
@[simp] noncomputable def c9:List D->OB
 |[.lst ds]=>some (.tup ds,false)
 |[.tup ds]=>some (.tup ds,false)
 |_=>none
theorem jY:bN X (.type "tuple") (yt X.K c9):=by
 refine bN.to lI λxs H Q q=>?_;obtain⟨B,ds,d,bb,sB,i,ee,q⟩:=q;cases i with
 |nil=>simp[c9]at ee
 |cons i1 i2=>
  cases i2 with
  |cons _ _=>cases i1<;>simp[c9]at ee
  |nil=>
   cases i1<;>try (simp[c9]at ee;done)
   ·rename_i l0 vs es h hl;simp only[c9]at ee;cases ee
    exact⟨_,_,rfl,.inr ⟨bg sB h,q.one sB (.tup h hl)⟩⟩
   ·rename_i l0 vs es h hl;simp only[c9]at ee;cases ee
    refine⟨_,_,rfl,.inl ⟨sB.seq h,λl hp=>?_⟩⟩;have xt:=Ext.laid (o:=.tup vs) sB hp;exact q _ _ _ xt (.tup (gc.of aw) (hl.mono xt.bn)) (by simp)
end
section
variable {X:Cx}{a b e:Expr}{pos:Pos}{x:Str}{p:Pos}
def vN (K:Frag)(n:Nat)(t:zV):TG:=λv σ H Q=>∃k a xs,v=.ref a/\j7 k K H a xs/\xs.length=n/\t xs σ H Q
theorem BC (hc:X.calm=true)(h:Dk X es t)(hn:(assignEach es X.env).length=n:=by rfl)(jh:(assignEach es X.env).findIdx? (·.1)=none:=by rfl):PG X (.Tuple es kt pos) (vN X.K n t):=by
 intro ac s σ H v u Q I r hw;obtain⟨k,l,xs,rfl,hq,hl,hw⟩:=hw;cases r
 cases k with
 |false=>
  obtain⟨its,rv,ht,hz⟩:=I.tuple hq;refine assign_Tuple_tuple (I.ok.hd hc) ht (by simp[hn,←hl,rv.length]) jh λh' hx=>?_;have I1:Inv X ac σ H { s with heap:=h' }:=I.kept (t':=s.toks) λb o e=>hx b o (vS (vX e)) e;exact h ac _ σ H xs _ Q I1 (by simpa using rv) hw
 |true=>
  obtain⟨its,rv,ht,hz⟩:=I.list hq;rw[assign_Tuple];refine wX (wpAny_standAt ?_);unfold unpack;have hsz:(assignEach es X.env).length=its.toArray.size:=by simp[hn,←hl,rv.length]
  rw[hsz,jh];refine wX (wpAny_holding (PySem.W.kun_itemsOf (I.ok.hd hc) ht.isList λh' hx=>?_));have I1:Inv X ac σ H { s with heap:=h' }:=I.kept (t':=s.toks) λb o e=>hx b o (vS (vX e)) e;exact h ac _ σ H xs _ Q I1 (by simpa using rv) hw
@[simp] def mq (is:List Nat)(f:FE):FS:=λρ=>(f ρ).bind λx=>(gn x.1).bind λds=>(dW is ds (if bi ds=true then ρ else unown ρ)).map .nx
theorem wa {K:Frag}{is:List Nat}{f:FE}{E:Ends}{σ:St}{H:Hp}(q:mj K (mq is f) E σ H):uD (tD K f) (vN K is.length (jn is)) E σ H:=by
 obtain⟨B0,H0,ρ,r,⟨N,s⟩,e,p⟩:=q;obtain⟨x,ex,e⟩:=oX e;obtain⟨ds,es,e⟩:=oX e;obtain⟨ρ',eρ,e⟩:=oY e;subst e;refine⟨N,ρ,x.1,x.2,s.ext.nh,s.rep,ex,λv H1 N1 x1 i1 _=>?_⟩;obtain⟨k,a,vs,rfl,sq,il⟩:=oW i1 es;have s1:=s.grow x1;refine⟨k,a,vs,rfl,sq.same x1.nh,by rw[il.length];exact jp eρ,?_⟩;by_cases hn:bi ds=true
 ·rw[if_pos hn]at eρ;exact jo s1 (s1.flats il hn) eρ λσ' s'=>p σ' H1 ⟨N1,s'⟩
 ·rw[if_neg hn]at eρ;exact jo s1.unown (il.mono λa o e=>by rw[cj jl];exact e) eρ λσ' s'=>p σ' H1 ⟨N1,s'⟩
theorem yL (he:JE X e f)(hg:PG X (.Tuple es kt p2) (vN X.K is.length (jn is)))(hs:swapsWithSole [.Tuple es kt p2] e pos.line X.env=pure false:=by rfl)(hw:swappedStores [.Tuple es kt p2] e X.env=pure none:=by rfl)
  (h1:(assignEach [.Tuple es kt p2] X.env).map (·.2)=[assign (.Tuple es kt p2) X.env]:=by rfl):JS X (.Assign [.Tuple es kt p2] e pos) (mq is f):=PS.to (AS he hg hs hw h1) λ_ _ _ q=>wa q
@[simp] def Km (i:Nat)(fk fv:FE):FS:=λρ=>match ρ[i]? with
 |some (some (.lst ds,true))=>(fv ρ).bind λv=>(fk ρ).bind λk=>match k.1 with
  |.int j=>(Ab ds.length j).bind λn=>if bw v.1=true then some (.nx (ρ.set i (some (.lst (ds.set n v.1),true))))else none
  |_=>none
 |_=>none
@[simp] def wb (i:Nat)(f:FE):FS:=λρ=>match ρ[i]? with
 |some (some (.lst ds,true))=>(f ρ).bind λx=>match x.1 with
  |.lst es=>if x.2=true/\bi es=true/\ds.length+es.length<=sizeLine then some (.nx (ρ.set i (some (.lst (ds++es),true))))else none
  |_=>none
 |_=>none
theorem BD (he:JE X e f)(hN:X.N[i]? = some y:=by rfl)(hv:xS X.env.scope y:=by first|exact Or.inl rfl|exact Or.inr (Or.inl rfl)|exact Or.inr (Or.inr rfl))(hd:(y == ("__debug__" : Str))=false:=by decide)
  (gt:(y == ("__classdict__" : Str))=false:=by decide)
  (l5:attributeBase (.Name y py) "extend" X.env (eval (.Name y py) X.env)=eval (.Name y py) X.env:=by rfl)
  (rl:((backTo cY (starEach [e] X.env)).all (λx=>!x.1) && (backToKw cY (keywordEach [] X.env)).all (λx=>x.1.isSome)
   && decide ([e].length+([]:List Keyword).length+(if([]:List Keyword).isEmpty then 0 else 1)<30))=true:=by rfl)
  (l7:(gX.endLine == cY.line)=true:=by rfl) (hs:starEach [e] X.env=[(false,eval e X.env)]:=by rfl) (xz:swapsWith (.Call (.Attribute (.Name y py) "extend" gX) [e] [] cY) none pos.line X.env=pure false:=by rfl):
  JS X (.Expr (.Call (.Attribute (.Name y py) "extend" gX) [e] [] cY) pos) (wb i f):=by
 refine PS.to (r6 (uS PySem.F.plainAttrs_list PySem.F.slot_list_extend PySem.F.type_list_extend tw (ci hN hv hd gt) (bJ he cT hs) l5 rl l7 hs rfl) xz) λE σ H q=>?_;obtain⟨B0,H0,ρ,r,⟨N,s⟩,ee,p⟩:=q;unfold wb at ee;split at ee
 ·rename_i ds ei;obtain⟨v,ev,ee⟩:=oX ee;obtain⟨vd,vb⟩:=v;cases vd with
  |lst es=>
   dsimp only at ee;split at ee
   ·rename_i hc;cases ee
    obtain⟨l,vs,z7,z,h1,h2,h3,h4⟩:=s.owL i _ ei;cases z
    refine⟨_,h1,.inl ⟨rfl,vs,gb.of (s.ext.nh _ _ h2)⟩,N,ρ,_,_,s.ext.nh,s.rep,ev,λv1 H1 N1 x1 i1 f1=>?_⟩;obtain⟨l2,ws,oh,rfl,z,g1,g2,g3⟩:=f1 hc.1;cases z
    have s1:=s.grow x1;obtain⟨l',Ja,z7,z,k1,k2,_,k4⟩:=s1.owL i _ ei;cases z
    rw[h1]at k1;cases k1;exact⟨l,l2,Ja,ws,rfl,rfl,s1.ext.nh _ _ k2,x1.nh _ _ g2,by rw[k4.length,g3.length];exact hc.2.2,p σ _ ⟨_,s1.write ei h1 (k4.append (s1.flats g3 hc.2.1))⟩⟩
   ·cases ee
  |_=>cases ee
 ·cases ee
end
open AutoSeq1 (wpAny_loadPart')
set_option maxRecDepth 100000
end DL
namespace DL
open PySem PySem.Spec PyProof.Rows
theorem tL (t:SetTable)(es:Array (Int×Value))(n:Nat):(relayAll t es n).2.1.led=t.led:=by
 unfold relayAll;split
 ·rename_i t' order h;unfold SetTable.relaid SetTable.laid at h;obtain⟨ow,_,h⟩:=oX h;cases h
  dsimp only;split<;>rfl
 ·rfl
theorem pb (t:SetTable)(es:Array (Int×Value))(n:Nat)(hp:t.plain=false):(relayAll t es n).2.1.plain=false:=by
 unfold relayAll;split
 ·rename_i t' order h;unfold SetTable.relaid SetTable.laid at h;obtain⟨ow,_,h⟩:=oX h;cases h
  dsimp only;split
  ·exact hp
  ·rfl
 ·rfl
theorem yM (t:SetTable)(es:Array (Int×Value))(h:Int)(x:Value):(layNew t es h x).2.1.led=t.led:=by
 unfold layNew;split
 ·dsimp only[SetTable.put,SetTable.orStandIn];repeat' (first|rfl|split)
 ·rfl
structure TabT (w:World)(es:Array (Int×Value))(t:SetTable):Prop where
 fits:t.fits es.size=true
 led:t.led = !w.params.followText "set-order"
 plain:es.size≠0->t.plain=false
def fo (prog:Program)(w:World)(h:Heap)(a:Addr)(ts:List Str):Prop :=
 ∃o es ep t,h.get? a=some o/\o.ExactSet/\o.data=.set es ep t/\ElemsOf (PySem.strKind prog w) es.toList/\(es.toList.map (λe=>strOf e.2)).Perm ts/\ts.Nodup/\ts.length<scanBound/\TabT w es t
noncomputable def fD (ts:List Str)(x:Str):List Str:=if x∈ts then ts else ts++[x]
theorem wc (ts:List Str)(x:Str):(fD ts x).length<=ts.length+1:=by unfold fD;split<;>simp
theorem pc (h:Value.isStrOf k v=true):strOf v=k:=by obtain⟨t,rfl⟩:=Value.isStrOf_shape h;rfl
section
variable {prog:Program}{w:World}{A:Around}{E:Value->Shared->Prop}{s:Shared}
theorem mr {es:Array (Int×Value)}{ts:List Str}(xP:ElemsOf (PySem.strKind prog w) es.toList)(hp:(es.toList.map (λe=>strOf e.2)).Perm ts)(k:Str):k∈ts ↔ ∃e∈es.toList,(PySem.strKind prog w).is k e.2=true:=by
 rw[←hp.mem_iff,List.mem_map];constructor
 ·rintro⟨e,he,rfl⟩;obtain⟨⟨k',hk,_⟩,_⟩:=xP e he;have xB:Value.isStrOf k' e.2=true:=hk;refine⟨e,he,?_⟩;show Value.isStrOf (strOf e.2) e.2=true;rw[pc xB];exact xB
 ·rintro⟨e,he,hk⟩;exact⟨e,he,pc hk⟩
theorem mv {h:Heap}{a:Addr}{o:Obj}{es:Array (Int×Value)}{ep:Nat}{t:SetTable}(ho:h.get? a=some o)(hd:o.data=.set es ep t)(oh:Array (Int×Value))(t':SetTable):
  (h.update a (Obj.putSet oh t')).get? a=some { o with data:=.set oh (ep+1) t' }:=by
 have:=Heap.get?_update_self (Obj.putSet oh t') ho (by rw[putSet_of oh t' hd];rfl);rw[putSet_of oh t' hd]at this;exact this
theorem pd {g:Bool->Sem Unit}(hg:∀(b:Bool)(s₁:Shared)(Q':Unit->Shared->Prop),Q' () s₁->wpAny (model prog w) A (g b) Q' E s₁)
  {a:Addr}{o:Obj}{es:Array (Int×Value)}{ep:Nat}{t:SetTable}(ho:s.heap.get? a=some o) (u6:o.ExactSet) (hd:o.data=.set es ep t)
  {ji:Array (Int×Value)}{t2:SetTable}{ts:List Str}(xC:ElemsOf (PySem.strKind prog w) ji.toList) (CQ:(ji.toList.map (λe=>strOf e.2)).Perm ts) (nd:ts.Nodup)
  (zH:ts.length<scanBound) (Lo:t2.fits ji.size=true) (Hm:t2.led = !w.params.followText "set-order") (hpl:t2.plain=false) {qc:Bool}{R:Option Bool->Shared->Prop}
  (h:∀h',Heap.SameBut a s.heap h'->fo prog w h' a ts->R (some true) { s with heap:=h' }):
  wpAny (model prog w) A (do
    storeSet a ji t2
    if(!qc && t2.tooFull)=true then do
      g (relayAll t2 ji (SetTable.grown ji.size)).2.2
      storeSet a (relayAll t2 ji (SetTable.grown ji.size)).1 (relayAll t2 ji (SetTable.grown ji.size)).2.1
      pure (some true)
     else pure (some true)) R E s:=by
 have Jv:ji.size=ts.length:=by rw[←CQ.length_eq,vH,vF]
 refine wX (wpAny_storeSet_of ho hd ?_ (fits_of_scanBound (by rw[Jv];exact zH)));have HJ:=mv ho hd ji t2;have EY:=vW s.heap a (Obj.putSet ji t2);split
 ·have hp:=relayAll_perm t2 ji (SetTable.grown ji.size);have qd:=relayAll_fits t2 ji (SetTable.grown ji.size);have zG:=tL t2 ji (SetTable.grown ji.size);have EZ:=pb t2 ji (SetTable.grown ji.size) hpl;generalize hRl:relayAll t2 ji (SetTable.grown ji.size)=Rl at hp qd zG EZ ⊢;obtain⟨Ge,t3,Jw⟩:=Rl;dsimp only at hp qd zG EZ ⊢;have HK:ElemsOf (PySem.strKind prog w) Ge.toList:=xC.perm hp;have hsz:Ge.size=ji.size:=by rw[←vF,hp.length_eq,vF]
  refine wX (hg _ _ _ ?_);refine wX (wpAny_storeSet_of HJ rfl ?_ (fits_of_scanBound (by rw[hsz,Jv];exact zH)));have CM:=mv HJ rfl Ge t3;exact wY (h _ (EY.trans (vW _ a _)) ⟨_,Ge,_,t3,CM,u6,rfl,HK,(hp.map _).trans CQ,nd,zH,qd,zG.trans Hm,λ_=>EZ⟩)
 ·exact wY (h _ EY ⟨_,ji,_,t2,HJ,u6,rfl,xC,CQ,nd,zH,Lo,Hm,λ_=>hpl⟩)
theorem qI {a:Addr}{ts:List Str}{k:Str}{tk:Tok}{Q:Bool->Shared->Prop}(hS:fo prog w s.heap a ts)(Fa:ts.length+1<scanBound)
  (h:∀b h',Heap.SameBut a s.heap h'->fo prog w h' a (fD ts k)->Q b { s with heap:=h' }):
  wpAny (model prog w) A (setAddHashed a (.str k tk) ((PySem.strKind prog w).hash k)) Q E s:=by
 have hS0:=hS;obtain⟨o,es,ep,t,ho,u6,hd,xP,nY,nd,hb,hf,zI,hpl⟩:=hS;have z4:(PySem.strKind prog w).is k (.str k tk)=true:=strKind_is prog w k tk;have sz:es.size=ts.length:=by rw[←nY.length_eq,vH,vF]
 unfold setAddHashed setAddHashedIn;refine wpAny_holding (wX (wpAny_setState_of ho hd hf ?_));dsimp only;rw[byScan_of (x:=.str k tk) rfl (by rw[sz];exact hb) xP];simp only[↓reduceIte];unfold setAddByScan;refine wX ?_;refine wX (wpAny_rule ?_);refine wX (wpAny_setScan_of z4 ho hd hf xP ?_);cases hr:List.findIdx? (λe=>(PySem.strKind prog w).is k e.2) es.toList with
 |some j=>
  dsimp only;obtain⟨hj,Lp,_⟩:=List.findIdx?_eq_some_iff_getElem.mp hr;have hm:k∈ts:=(mr xP nY k).mpr ⟨es.toList[j],List.getElem_mem hj,Lp⟩;refine wY (wY ?_);have e:fD ts k=ts:=by unfold fD;rw[if_pos hm]
  exact h false s.heap (Heap.SameBut.refl a s.heap) (by rw[e];exact hS0)
 |none=>
  dsimp only;have hm:k∉ts:=λz=>by
   obtain⟨e,he,hp⟩:=(mr xP nY k).mp z;have:=List.findIdx?_eq_none_iff.mp hr e he;rw[hp]at this;exact Bool.noConfusion this
  have ea:fD ts k=ts++[k]:=by unfold fD;rw[if_neg hm]
  have Lq:∀(b:Bool){s₁:Shared}{Q':Unit->Shared->Prop},Q' () s₁->wpAny (model prog w) A (match b with|true=>rule "set.scan.the-table-gave-way" | false=>pure ()) Q' E s₁ :=
   λb s₁ Q' hq=>by cases b<;>first|exact wY hq|exact wpAny_rule hq
  have fj:=layNew_perm t es ((PySem.strKind prog w).hash k) (.str k tk);have sU:=layNew_fits t es ((PySem.strKind prog w).hash k) (.str k tk);have Cp:=yM t es ((PySem.strKind prog w).hash k) (.str k tk);generalize hL:layNew t es ((PySem.strKind prog w).hash k) (.str k tk)=L at fj sU Cp ⊢;obtain⟨ji,t1,qc,HL⟩:=L;dsimp only at fj sU Cp ⊢;rw[Array.toList_push]at fj;have xC:ElemsOf (PySem.strKind prog w) ji.toList:=(xP.push z4 rfl).perm fj;have CQ:(ji.toList.map (λe=>strOf e.2)).Perm (ts++[k]):=(fj.map _).trans (by rw[List.map_append];exact nY.append_right _);have Jx:(ts++[k]).Nodup:=by
   rw[List.nodup_append];refine⟨nd,by simp,λx hx y hy=>?_⟩;rw[List.mem_singleton]at hy;subst hy;exact λz=>hm (z ▸ hx)
  have zH:(ts++[k]).length<scanBound:=by rw[uZ];exact Fa
  refine wX (Lq _ ?_);have Fb:∀h',Heap.SameBut a s.heap h'->fo prog w h' a (ts++[k])->Q true { s with heap:=h' }:=λh' hsb xD=>h true h' hsb (by rw[ea];exact xD);split
  ·refine wX ?_;rw[hashByValue_scannable 8 (x:=.str k tk) rfl];refine wY ?_;refine pd ?_ ho u6 hd xC CQ Jx zH ?_ ?_ ?_ ?_
   ·intro b s₁ Q' hq;cases b<;>first|exact wY hq|exact wpAny_rule hq
   ·exact SetTable.fits_plain_off sU
   ·exact Cp.trans zI
   ·rfl
   ·intro h' hsb xD;dsimp only;exact wY (Fb h' hsb xD)
  ·rename_i hnp;refine wX (wY ?_);simp only[↓reduceIte];refine pd ?_ ho u6 hd xC CQ Jx zH sU (Cp.trans zI) (by simpa using hnp) ?_
   ·intro b s₁ Q' hq;cases b<;>first|exact wY hq|exact wpAny_rule hq
   ·intro h' hsb xD;dsimp only;exact wY (Fb h' hsb xD)
end
noncomputable def dQ (ss:List Str):List Str:=ss.foldl fD []
theorem qJ (h:ts.Nodup)(x:Str):(fD ts x).Nodup:=by
 unfold fD;split
 ·exact h
 ·rename_i hm;rw[List.nodup_append];refine⟨h,by simp,λy hy z hz=>?_⟩;rw[List.mem_singleton]at hz;subst hz;exact λe=>hm (e ▸ hy)
theorem kE:y∈fD ts x↔y∈ts∨y=x:=by
 unfold fD;split
 ·rename_i hm;exact⟨.inl,λz=>z.elim id λe=>e ▸ hm⟩
 ·simp
theorem nI (ss:List Str):∀ts:List Str,(ss.foldl fD ts).length<=ts.length+ss.length:=by
 induction ss with
 |nil=>intro ts;simp
 |cons x r ih=>intro ts;rw[List.foldl_cons];have:=ih (fD ts x);have:=wc ts x;simp only[vD];omega
theorem kF (ss:List Str):(dQ ss).length<=ss.length:=by have:=nI ss [];simpa [dQ]using this
theorem tM (ss:List Str)(x:Str):dQ (ss++[x])=fD (dQ ss) x:=by unfold dQ;rw[List.foldl_append];rfl
theorem StrsAre.at:∀ {vs:List Value}{ss:List Str},StrsAre vs ss->∀(i:Nat)(v:Value),vs[i]? = some v->∃x t,v=.str x t/\ss[i]? = some x
 |_,_,.nil,i,v,h=>by simp at h
 |_,_,.cons x t hr,0,v,h=>by simp at h;exact⟨x,t,h.symm,rfl⟩
 |_,_,.cons x t hr,i+1,v,h=>by
  simp only[List.getElem?_cons_succ]at h;exact StrsAre.at hr i v h
theorem fo.at (x:fo prog w h a ts)(k:∀o,h.get? a=some o->h'.get? a=some o):fo prog w h' a ts:=by
 obtain⟨o,es,ep,t,ho,r⟩:=x;exact⟨o,es,ep,t,k o ho,r⟩
section
variable {prog:Program}{w:World}{A:Around}{R:Result->Shared->Prop}{I:Addr}{fp wr:List Addr}{G:Array GenState->Array GenState->Prop}{n:Nat}{P:Nat->Value->Prop}{St:Nat->Shared->Prop}
theorem nJ (W:WalksS prog w A.in1 I fp wr G n P St)(S:Addr)(sV:S∉fp)(ss:List Str)(hn:ss.length=n)
  (Cq:∀i v,P i v->∃x t,v=.str x t/\ss[i]? = some x) (hb:n+1<scanBound):
  ∀(k i:Nat)(s:Shared),n - i=k->i<=n->St i s->fo prog w s.heap S (dQ (ss.take i)) ->
   (∀s',Moved (S::wr) G s s'->fo prog w s'.heap S (dQ ss)->R (.ok (.ret .none)) s') ->
   codeAny (model prog w) A (.builtin "set.update.loop" ⟨[.ref S,.ref I],[]⟩) R s:=by
 have Jy:S∉wr:=λh=>sV (W.sub _ h);have xA:∀b∈wr,b∈S::wr:=λb hb=>mZ _ hb;intro k;induction k with
 |zero=>
  intro i s hk hi jh hS hR;have zJ:i=n:=by omega
  subst zJ;refine codeAny_builtin PyProof.Rows.F.entry_set_update_loop ?_;rw[Around.under_plainId PyProof.Rows.F.plain_set_update_loop _];show wpAny _ A.in1 (pyNext (.ref I)>>=_) _ _ s;refine wX (W.done s _ _ jh λs' hm=>?_);show wpAny _ A.in1 (ret Value.none) _ _ s';refine wY (hR s' (hm.mono xA) ?_);rw[List.take_of_length_le (by omega)]at hS;exact hS.at λo e=>hm.heap S _ Jy e
 |succ k ih=>
  intro i s hk hi jh hS hR;have fH:i<n:=by omega
  refine codeAny_builtin PyProof.Rows.F.entry_set_update_loop ?_;rw[Around.under_plainId PyProof.Rows.F.plain_set_update_loop _];show wpAny _ A.in1 (pyNext (.ref I)>>=_) _ _ s;refine wX (W.item i s _ _ fH jh λv s' hP hst' hm=>?_);obtain⟨x,t,rfl,hx⟩:=Cq i v hP;have xD:fo prog w s'.heap S (dQ (ss.take i)):=hS.at λo e=>hm.heap S _ Jy e;show wpAny _ A.in1 (holding [Value.str x t] (setAdd S (.str x t))>>=_) _ _ s';refine wX (wpAny_holding ?_);unfold setAdd;refine wpAny_holding ?_;refine wX ((PySem.strKind prog w).pyHash (k:=x) (strKind_is prog w x t) ?_);have hl:(dQ (ss.take i)).length+1<scanBound:=by have:=kF (ss.take i);rw[List.length_take]at this;omega
  refine qI (s:={ s' with toks:=s'.toks+1 }) xD hl λb h' hsb AA=>?_;have Gf:fo prog w h' S (dQ (ss.take (i+1))):=by
   rw[List.take_add_one,hx,Option.toList_some,tM];exact AA
  refine wY ⟨plainId_quiet PyProof.Rows.F.plain_set_update_loop _,ih (i+1) _ (by omega) fH (W.frame _ s' _ _ hst' (Nat.le_succ _) λb hb o e=>?_) Gf λE8 hm'' hS''=>?_⟩
  ·rw[hsb.2 b (λh:b=S=>sV (by rw[←h];exact hb))];exact e
  ·refine hR E8 (Moved.trans W.gtrans ((hm.mono xA).then_heap (Nat.le_succ _) λb o hb e=>?_) hm'') hS'';rw[hsb.2 b (λh:b=S=>hb (by rw[h];exact mX))];exact e
end
section
variable {prog:Program}{w:World}{A:Around}{E:Value->Shared->Prop}{s:Shared}
noncomputable abbrev cR (w:World):Obj:={ cls:=.type "set",dict:=none,data:=.set #[] 0 (.fresh 0 0 (!w.params.followText "set-order")) }
theorem pe (a:Value) 
  (h:Q₁ (.ref s.heap.objs.size) { s with heap:=s.heap.push (cR w) }):
  codeAny (model prog w) A (.call (.builtin "set.__new__") ⟨[.type "set",a],[]⟩) (wants Q₁ E) s:=by
 refine codeAny_of_tree ?_;show wpAny _ A.in1 (do checkBuiltinCall "set.__new__" ⟨[.type "set",a],[]⟩;again (.builtin "set.__new__" ⟨[.type "set",a],[]⟩)) _ _ s;refine wX (wpAny_of_eq (PySem.F.newCall_set_1 a) (wY ⟨plainId_quiet PySem.F.plain_set_new _,codeAny_builtin PySem.F.entry_set_new ?_⟩));rw[Around.under_plainId PySem.F.plain_set_new _];unfold Builtin.«set.__new__» Builtin.Frozenset.newClass;have xA:=sub_set_self;obtain⟨hp,g,d,tk,os⟩:=s;dsimp only;wp_walk;refine wpAny_askSetting (wY ?_);dsimp only;simp only[newObj];refine wX (wpAny_alloc (wY ?_));exact wY h
set_option maxHeartbeats 3200000 in
theorem kG 
  (hh:A.handled=none) (hl:s.heap.IsList l am) (hi:StrsAre am.toList ss) (hb:am.size+1<scanBound)
  (h:∀(h':Heap)(tk:Nat),fo prog w h' s.heap.objs.size (dQ ss) ->
   (∀b o,b<s.heap.objs.size->s.heap.get? b=some o->h'.get? b=some o)->Q (.ref s.heap.objs.size) { s with heap:=h',toks:=tk }):
  wpAny (model prog w) A (call (.type "set") [.ref l]) Q E s:=by
 obtain⟨c,tl,Lr⟩:=PySem.F.called_set.mro;have Jz:=PySem.F.called_set.made;have xA:=PySem.F.called_set.sub;refine wpAny_call (codeAny_of_tree ?_);show wpAny _ _ (callAny (.type "set") _) _ _ _;refine wY ⟨Code.quiet_builtin _ (by decide +kernel),codeAny_builtin PySem.F.entry_type_call ?_⟩;rw[Around.under_plain (weight_type_call_type "set" [.ref l] []) rfl];have h1:=PySem.F.called_set.notType;have h2:=PySem.F.called_set.canCreate;have Mu:=PySem.F.typeCall_set_1 (.ref l);have bT:ss.length=am.size:=by have:=hi.strs;rw[←this,vH,vF]
 repeat (any_goals (first|assumption|wp_step))
 refine codeAny_mono (pe (.ref l) (E:=E) (Q₁:=λobj s₁=>obj=.ref s.heap.objs.size/\s₁={ s with heap:=s.heap.push (cR w) }) ⟨rfl,rfl⟩) λr s₁ hr=>?_;cases r with
 |error e=>exact hr
 |ok fl=>
  cases fl with
  |ret obj=>
   obtain⟨rfl,rfl⟩:=hr;have hS:(s.heap.push (cR w)).get? s.heap.objs.size=some (cR w):=vY _ rfl;have hT:Shared.TypeIs { s with heap:=s.heap.push (cR w) } (.ref s.heap.objs.size) "set":=⟨_,hS,rfl⟩;have Mv:=PySem.F.called_set.init.lookup;have Mw:=PySem.F.called_set.init.bind (.ref s.heap.objs.size);repeat (any_goals (first|assumption|wp_step))
   refine codeAny_mono (codeAny_call_builtin (R:=wants (λr s₂=>r=.none/\∃h' tk,s₂={ s with heap:=h',toks:=tk } /\
     fo prog w h' s.heap.objs.size (dQ ss) /\
     (∀b o,b<s.heap.objs.size->s.heap.get? b=some o->h'.get? b=some o)) E) PySem.F.called_set.init.plain PySem.F.entry_set_init (check_set_init_1 hT ?_)) λr₂ s₂ hr₂=>?_
   ·obtain⟨ol,J0,J6,nl,HN⟩:=hl;obtain⟨Ls,Fc,J7,Cr⟩:=ol;simp only at J6 HN;subst J6;subst HN;have HP:(s.heap.push (cR w)).get? l=some { cls:=.type "list",dict:=Fc,data:=.seq am nl,slots:=Cr }:=vZ _ J0;have Lu:=PySem.F.sub_list_set;have Lv:=PySem.F.sub_list_frozenset;have xO:(Value.type "list" == Value.type "dict")=false:=by decide
    have Cp:(s.heap.push (cR w)).IsList l am:=⟨_,HP,rfl,nl,rfl⟩;unfold Builtin.«set.__init__» noKeywords Builtin.Frozenset.updateFrom;generalize hPI:pyIter=PI;wp_walk;subst hPI;refine wpAny_pyIter_list Cp ?_;refine wX (wpAny_runValue ?_);have J8:l<s.heap.objs.size:=vX J0;have Lx:A.in1.in1.in1.handled=none:=by simp[hh]
    have HQ:l≠(s.heap.push (cR w)).objs.size:=by
     rw[Heap.size_push];exact vS (Nat.lt_succ_of_lt J8)
    have sV:s.heap.objs.size∉[(s.heap.push (cR w)).objs.size,l]:=by
     rw[Heap.size_push];simp only[List.mem_cons,List.mem_singleton,List.not_mem_nil,or_false,not_or];exact⟨vS (Nat.lt_succ_self _),Nat.ne_of_gt J8⟩
    have Cq:∀(i:Nat)(v:Value),am[i]? = some v->∃x t,v=.str x t/\ss[i]? = some x:=λi v hv=>
     StrsAre.at hi i v (by rw[Array.getElem?_toList];exact hv)
    refine nJ ((Walks.list Lx _ l HQ am).toS) s.heap.objs.size
     sV ss bT Cq hb (am.size - 0) 0 _ (by omega) (uN _)
     ⟨⟨_,vY _ rfl,rfl,rfl⟩,(Cp.push _)⟩ ?hS0 ?hR
    case hS0=>
     have zK:((s.heap.push (cR w)).push { cls:=.type "list_iterator",data:=.fields #[.ref l,.int 0 0] }).get? s.heap.objs.size
       = some (cR w):=vZ _ hS
     exact⟨_,#[],0,_,zK,⟨rfl,rfl,rfl⟩,rfl,λe he=>by simp at he,List.Perm.refl _,List.nodup_nil,(by show(0:Nat)<scanBound;decide),rfl,rfl,λz=>absurd rfl z⟩
    case hR=>
     intro s' hm xD
     obtain⟨h',g',d',zL,Hl⟩:=s'
     have eg:g'=s.gens:=hm.gens
     have ed:d'=s.drawn:=hm.drawn
     have eo:Hl=s.os:=hm.os
     subst eg;subst ed;subst eo
     show wpAny _ _ _ _ _ _
     refine wY ?_
     show wpAny _ _ (ret Value.none) _ _ _
     refine wY ⟨rfl,h',zL,rfl,xD,λb o hb e=>?_⟩
     have zH:b≠s.heap.objs.size:=vS hb
     have Ly:b≠(s.heap.push (cR w)).objs.size:=by
      rw[Heap.size_push];exact vS (Nat.lt_succ_of_lt hb)
     exact hm.heap b o (by simp only[List.mem_cons,List.mem_singleton,List.not_mem_nil,or_false,not_or];exact⟨zH,Ly⟩) (vZ _ (vZ _ e))
   ·cases r₂ with
    |error e=>exact hr₂
    |ok fl₂=>
     cases fl₂ with
     |ret r=>
      obtain⟨rfl,h',tk,rfl,xD,xB⟩:=hr₂;repeat (any_goals (first|assumption|wp_step))
      exact h _ _ xD xB
     |_=>exact hr₂.elim
  |_=>exact hr.elim
end
open Sem (wp)
section
variable {M:Model}{A:Around}{E:Value->Shared->Prop}{s:Shared}
theorem yN (hn:n≠0)(h:∀k d,k<n->Q k { s with drawn:=d }):wpAny M A (choose src n) Q E s:=by
 intro Γ p hG;unfold choose;rw[Sem.wp_choose];refine⟨hn,?_⟩;have:=h _ (s.drawn.bump src) (Nat.mod_lt (M.w.draws src (s.drawn.get src)) (Nat.pos_of_ne_zero hn));simpa using this
end
theorem iR {α:Type}:∀(l:List α)(i:Nat),i<l.length->(l.eraseIdx i).length=l.length - 1:=λl i h=>by rw[List.length_eraseIdx,if_pos h]
theorem iu {α:Type}:∀(l:List α)(i:Nat)(x:α),l[i]? = some x->(x::l.eraseIdx i).Perm l
 |[],i,x,h=>by simp at h
 |a::l,0,x,h=>by simp at h;subst h;exact List.Perm.refl _
 |a::l,i+1,x,h=>by
  rw[List.eraseIdx_cons_succ];simp only[List.getElem?_cons_succ]at h;exact(List.Perm.swap a x _).trans ((iu l i x h).cons a)
theorem so {α:Type}:∀(n:Nat)(xs:List α)(s:Shared)(Q:List α->Shared->Prop),xs.length=n->(∀ys d,ys.Perm xs->Q ys { s with drawn:=d })->wpAny M A (drawOrder n xs) Q E s
 |0,xs,s,Q,hl,h=>by
  have:xs=[]:=List.eq_nil_of_length_eq_zero hl;subst this;exact wY (h [] s.drawn (List.Perm.refl _))
 |n+1,[],s,Q,hl,h=>by simp at hl
 |n+1,x::r,s,Q,hl,h=>by
  show wpAny M A (choose .order (x::r).length>>=λi=>match (x::r)[i]? with
   |some x'=>(do return x'::(←drawOrder n ((x::r).eraseIdx i)))
   |none=>unsupported "internal:drawOrder") Q E s
  refine wX (yN (by simp) λk d hk=>?_);obtain⟨y,hy⟩:∃y,(x::r)[k]? = some y:=⟨_,vU hk⟩;rw[hy];refine wX (so n _ _ _ (by rw[iR _ _ hk,hl];rfl) λys d' hp=>wY (h _ _ ((hp.cons y).trans (iu _ _ _ hy))))
theorem sr {α:Type}(next:Nat->Nat):∀(fuel k:Nat)(left:List α)(out:Array α),left.length=fuel->(pickOrder.go next fuel k left out).toList.Perm (out.toList++left)
 |0,k,left,out,hl=>by
  have:left=[]:=List.eq_nil_of_length_eq_zero hl;subst this;unfold pickOrder.go;simp
 |fuel+1,k,left,out,hl=>by
  unfold pickOrder.go;have hk:next k % left.length<left.length:=Nat.mod_lt _ (by omega);obtain⟨y,hy⟩:∃y,left[next k % left.length]? = some y:=⟨_,vU hk⟩;rw[hy];dsimp only;refine(sr next fuel (k+1) _ _ (by rw[iR _ _ hk];omega)).trans ?_;rw[Array.toList_push,List.append_assoc];exact(iu _ _ _ hy).append_left _
theorem tN {α:Type}(next:Nat->Nat)(xs:Array α):(pickOrder next xs).toList.Perm xs.toList:=by
 have:=sr next xs.size 0 xs.toList #[] (by simp);simpa [pickOrder]using this
theorem aW:Slot "set_iterator" "__next__" "set_iterator.__next__" :=
 .of (owner:="set_iterator") (n:="__next__") (by rw[typeLookup_type,builtinLookup_eq_fast];kernel_rfl) (by decide +kernel) (by decide +kernel) (by decide +kernel)
  (by first|exact .inl (by decide +kernel)|exact .inr (by decide +kernel)) (by rw[isSubtype_type];kernel_rfl)
theorem dq:entryFor table "set_iterator.__next__" = some Builtin.«set_iterator.__next__»:=entryFor_of_tree (by kernel_rfl)
theorem dG (a:Value):argsOk "set_iterator.__next__" ⟨[a],[]⟩:=by unfold argsOk;kernel_rfl
theorem hU:Slot "set_iterator" "__iter__" "set_iterator.__iter__" :=
 .of (owner:="set_iterator") (n:="__iter__") (by rw[typeLookup_type,builtinLookup_eq_fast];kernel_rfl) (by decide +kernel) (by decide +kernel) (by decide +kernel)
  (by first|exact .inl (by decide +kernel)|exact .inr (by decide +kernel)) (by rw[isSubtype_type];kernel_rfl)
theorem kH:entryFor table "set_iterator.__iter__" = some Builtin.«dict_keyiterator.__iter__» :=
 entryFor_alias (id':="dict_keyiterator.__iter__") (by kernel_rfl) rfl (by decide +kernel) (by kernel_rfl)
theorem lL (a:Value):argsOk "set_iterator.__iter__" ⟨[a],[]⟩:=by unfold argsOk;kernel_rfl
theorem jR:entryFor table "set.__iter__" = some Builtin.«frozenset.__iter__» :=
 entryFor_alias (id':="frozenset.__iter__") (by kernel_rfl) rfl (by decide +kernel) (by kernel_rfl)
noncomputable abbrev iz (HR:Value)(i:Nat)(S:Addr)(n ep:Nat):Obj:={ cls:=.type "set_iterator",data:=.fields #[HR,.int i 0,.ref S,.int n 0,.int ep 0] }
section
variable {prog:Program}{w:World}{A:Around}{E:Value->Shared->Prop}{s:Shared}{it S:Addr}{i ep:Nat}{o:Obj}{es:Array (Int×Value)}{t:SetTable}
theorem cA (ho:s.heap.get? it=some (iz HR i S n ep)):s.TypeIs (.ref it) "set_iterator":=⟨_,ho,rfl⟩
theorem nK {k k':Nat}{x:Value}{Q:Option Value->Shared->Prop}(ho:s.heap.get? it=some (iz (.int k 0) i S es.size ep))
  (hS:s.heap.get? S=some o) (hd:o.data=.set es ep t) (hf:t.fits es.size=true)
  (hN:∀(A':Around)(E':Value->Shared->Prop)(Q':Option (Value×Nat)->Shared->Prop),Q' (some (x,k')) s->wpAny (model prog w) A' (setNext S k i ep) Q' E' s)
  (hQ:∀h',h'.get? it=some (iz (.int k' 0) (i+1) S es.size ep)->Heap.SameBut it s.heap h'->Q (some x) { s with heap:=h' }):
  wpAny (model prog w) A (pyNext (.ref it)) Q E s:=by
 unfold pyNext;refine wX (wpAny_attempt (wpAny_callSpecial?_slot (name:=Str.ofString "__next__") (cA ho) aW
  (wpAny_call_entry aW (cA ho) dq ?_ (dG _))))
 show wpAny _ _ (fieldsOf (.ref it)>>=_) _ _ s;refine wX (wpAny_fieldsOf ho rfl ?_);show wpAny _ _ (setEntries S>>=_) _ _ s;refine wX (wpAny_setEntries_of hS hd hf ?_);rw[if_neg (by simp)];show wpAny _ _ (setNext S _ _ _>>=_) _ _ s;simp only[Int.toNat_natCast];refine wX (hN _ _ _ ?_);dsimp only;refine wX (wpAny_setField_rec ho (by simp) λh1 e1 b1=>?_);refine wX (wpAny_setField_rec e1 (by simp) λh2 e2 b2=>?_);exact wY ⟨x,rfl,wY (hQ h2 (by simpa [rawInt,iz]using e2) (b1.trans b2))⟩
theorem nL {k:Nat}{Q:Option Value->Shared->Prop}(hh:A.handled=none)(ho:s.heap.get? it=some (iz (.int k 0) i S es.size ep))
  (hS:s.heap.get? S=some o) (hd:o.data=.set es ep t) (hf:t.fits es.size=true)
  (hN:∀(A':Around)(E':Value->Shared->Prop)(Q':Option (Value×Nat)->Shared->Prop),Q' none s->wpAny (model prog w) A' (setNext S k i ep) Q' E' s)
  (hQ:∀h',Heap.ExtBut it s.heap h'->Q none { s with heap:=h' }):
  wpAny (model prog w) A (pyNext (.ref it)) Q E s:=by
 unfold pyNext;refine wX (wpAny_attempt (wpAny_callSpecial?_slot (name:=Str.ofString "__next__") (cA ho) aW
  (wpAny_call_entry aW (cA ho) dq ?_ (dG _))))
 show wpAny _ _ (fieldsOf (.ref it)>>=_) _ _ s;refine wX (wpAny_fieldsOf ho rfl ?_);show wpAny _ _ (setEntries S>>=_) _ _ s;refine wX (wpAny_setEntries_of hS hd hf ?_);rw[if_neg (by simp)];show wpAny _ _ (setNext S _ _ _>>=_) _ _ s;simp only[Int.toNat_natCast];refine wX (hN _ _ _ ?_);dsimp only;refine wX (wpAny_setField_rec ho (by simp) λh1 e1 b1=>?_);refine wX ?_;simp only[newExc,newTuple];refine wX (wpAny_newObj_type ?_ (by size_fits));refine wX (m:=firstArgMember _ _) (wpAny_of_eq (a:=Value.none) (by first|rfl|(simp only[firstArgMember];rfl)) ?_);refine wpAny_newObj_type ?_ (by size_fits);simp only[raiseNew];refine wX (wpAny_handled ?_);rw[show A.in1.handled=none from hh];refine wX (wY (wpAny_throw ?_));refine wX (wpAny_isInstance (T:="StopIteration") (b:=true) ⟨_,vY _ rfl,rfl⟩ isSubtype_stop ?_);exact wY (hQ _ ((b1.extBut.push _).push _))
theorem lM {T:Addr}{pl:List Nat}{p:Nat}{x:Int×Value}{nt:Nat}{Q:Option Value->Shared->Prop}(ho:s.heap.get? it=some (iz (.ref T) i S es.size ep))
  (hT:s.heap.get? T=some (seqObj "tuple" (pl.map λ(p:Nat)=>Value.int p 0).toArray nt))
  (hS:s.heap.get? S=some o) (hd:o.data=.set es ep t) (hf:t.fits es.size=true) (hp:pl[i]? = some p) (hx:es[p]? = some x)
  (hQ:∀h',h'.get? it=some (iz (.ref T) (i+1) S es.size ep)->Heap.SameBut it s.heap h'->Q (some x.2) { s with heap:=h' }):
  wpAny (model prog w) A (pyNext (.ref it)) Q E s:=by
 unfold pyNext;refine wX (wpAny_attempt (wpAny_callSpecial?_slot (name:=Str.ofString "__next__") (cA ho) aW
  (wpAny_call_entry aW (cA ho) dq ?_ (dG _))))
 show wpAny _ _ (fieldsOf (.ref it)>>=_) _ _ s;refine wX (wpAny_fieldsOf ho rfl ?_);show wpAny _ _ (setEntries S>>=_) _ _ s;refine wX (wpAny_setEntries_of hS hd hf ?_);rw[if_neg (by simp)];show wpAny _ _ (seqItems? (.ref T)>>=_) _ _ s;refine wX (wpAny_seqItems hT rfl ?_);have e1:(pl.map λ(p:Nat)=>Value.int p 0).toArray[(i:Int).toNat]? = some (.int p 0):=by simp[hp]
 dsimp only;rw[e1];dsimp only;have e2:wpAny (model prog w) A.in1 (setNextDrawn S (p:Int).toNat (ep:Int).toNat) (λy s'=>y=x.2/\s'=s) (λ_ _=>False) s:=by
  unfold setNextDrawn;refine wX (wpAny_setState_of hS hd hf ?_);dsimp only;rw[if_neg (by simp)];simp only[Int.toNat_natCast,hx];exact wY ⟨rfl,rfl⟩
 refine wX (wpAny_mono e2 (λy s' hy=>?_) λ_ _ z=>z.elim);obtain⟨rfl,rfl⟩:=hy;refine wX (wpAny_setField_rec ho (by simp) λh1 e1 b1=>?_);exact wY ⟨_,rfl,wY (hQ h1 (by simpa [rawInt,iz]using e1) b1)⟩
theorem lN {T:Addr}{pl:List Nat}{nt:Nat}{Q:Option Value->Shared->Prop}(hh:A.handled=none)(ho:s.heap.get? it=some (iz (.ref T) i S es.size ep))
  (hT:s.heap.get? T=some (seqObj "tuple" (pl.map λ(p:Nat)=>Value.int p 0).toArray nt))
  (hS:s.heap.get? S=some o) (hd:o.data=.set es ep t) (hf:t.fits es.size=true) (hp:pl[i]? = none)
  (hQ:∀h',Heap.ExtBut it s.heap h'->Q none { s with heap:=h' }):
  wpAny (model prog w) A (pyNext (.ref it)) Q E s:=by
 unfold pyNext;refine wX (wpAny_attempt (wpAny_callSpecial?_slot (name:=Str.ofString "__next__") (cA ho) aW
  (wpAny_call_entry aW (cA ho) dq ?_ (dG _))))
 show wpAny _ _ (fieldsOf (.ref it)>>=_) _ _ s;refine wX (wpAny_fieldsOf ho rfl ?_);show wpAny _ _ (setEntries S>>=_) _ _ s;refine wX (wpAny_setEntries_of hS hd hf ?_);rw[if_neg (by simp)];show wpAny _ _ (seqItems? (.ref T)>>=_) _ _ s;refine wX (wpAny_seqItems hT rfl ?_);have e1:(pl.map λ(p:Nat)=>Value.int p 0).toArray[(i:Int).toNat]? = none:=by simpa using hp
 dsimp only;rw[e1];dsimp only;refine wX (wpAny_setField_rec ho (by simp) λh0 e0 b0=>?_);refine wX (wpAny_setField_rec e0 (by simp) λh1 e1 b1=>?_);refine wX ?_;simp only[newExc,newTuple];refine wX (wpAny_newObj_type ?_ (by size_fits));refine wX (m:=firstArgMember _ _) (wpAny_of_eq (a:=Value.none) (by first|rfl|(simp only[firstArgMember];rfl)) ?_);refine wpAny_newObj_type ?_ (by size_fits);simp only[raiseNew];refine wX (wpAny_handled ?_);rw[show A.in1.handled=none from hh];refine wX (wY (wpAny_throw ?_));refine wX (wpAny_isInstance (T:="StopIteration") (b:=true) ⟨_,vY _ rfl,rfl⟩ isSubtype_stop ?_);exact wY (hQ _ (((b0.trans b1).extBut.push _).push _))
theorem pf (ho:s.heap.get? it=some (iz HR i S n ep))(h:Q (.ref it) s):wpAny (model prog w) A (pyIter (.ref it)) Q E s:=by
 refine wpAny_pyIter_slot (cA ho) hU (wpAny_call_entry hU (cA ho) kH ?_ (lL _));show wpAny _ _ (ret (.ref it)) _ _ s;exact wY ⟨_,rfl,"set_iterator",_,cA ho,aW.lookup,h⟩
end
section
variable {prog:Program}{w:World}{A:Around}{E:Value->Shared->Prop}{s:Shared}{it S:Addr}{i k ep:Nat}{o:Obj}{es:Array (Int×Value)}{t:SetTable}
theorem mw (hS:s.heap.get? S=some o)(hd:o.data=.set es ep t)(hf:t.fits es.size=true)(hb:w.params.followText "set-order" = true)
  (h:Q (((pickOrder (w.params.setOrder S ep) es)[i]?).map λe=>(e.2,k)) s):wpAny (model prog w) A (setNext S k i ep) Q E s:=by
 unfold setNext;refine wX (wpAny_setState_of hS hd hf ?_);dsimp only;unfold setsByText;refine wX (wX (wpAny_askSetting (wY ?_)));show wpAny _ _ (if w.params.followText "set-order" = true then _ else _) _ _ _;rw[if_pos hb,if_neg (by simp)];unfold setWalk setsByText;refine wX (wX (wpAny_setState_of hS hd hf ?_));dsimp only;refine wX (wX (wpAny_askSetting (wY ?_)));show wpAny _ _ (if w.params.followText "set-order" = true then _ else _) _ _ _;rw[if_pos hb];refine wX (wpAny_askSetting (wY ?_));exact wY h
theorem kI (hS:s.heap.get? S=some o)(hd:o.data=.set es ep t)(hf:t.fits es.size=true)(hb:w.params.followText "set-order" = false)(hl:t.led=true)(hz:es.size<=1)
  (h:Q (match es[SetTable.below t.place k]?,t.place[SetTable.below t.place k]? with
   |some (_,x),some j=>some (x,j+1)
   |_,_=>none) s):wpAny (model prog w) A (setNext S k i ep) Q E s:=by
 unfold setNext;refine wX (wpAny_setState_of hS hd hf ?_);dsimp only;unfold setsByText;refine wX (wX (wpAny_askSetting (wY ?_)));show wpAny _ _ (if w.params.followText "set-order" = true then _ else _) _ _ _;rw[if_neg (by rw[hb];simp)];show wpAny _ _ (if(!t.plain && decide (es.size > 1))=true then _ else _) _ _ _;rw[if_neg (by rw[decide_eq_false (by omega)];simp)];show wpAny _ _ ((if(!t.led && !es.isEmpty)=true then unsupported "set:maker-not-led" else pure ())>>=_) _ _ _;rw[hl,if_neg (by simp)];refine wX (wY ?_);exact wY h
theorem mx (hh:A.handled=none)(hd:o.data=.set es ep t)(hf:t.fits es.size=true)(xO:S≠it)(vs:List Value)(hv:vs.length=es.size)(sl:Nat->Nat)
  (hN:∀i x,vs[i]? = some x->∀(A':Around)(E':Value->Shared->Prop)(s:Shared)(Q':Option (Value×Nat)->Shared->Prop),s.heap.get? S=some o->Q' (some (x,sl (i+1))) s->wpAny (model prog w) A' (setNext S (sl i) i ep) Q' E' s)
  (hE:∀(A':Around)(E':Value->Shared->Prop)(s:Shared)(Q':Option (Value×Nat)->Shared->Prop),s.heap.get? S=some o->Q' none s->wpAny (model prog w) A' (setNext S (sl es.size) es.size ep) Q' E' s):
  Walks prog w A it [it,S] [it] es.size (λi v=>vs[i]? = some v) (λi h=>h.get? it=some (iz (.int (sl i) 0) i S es.size ep)/\h.get? S=some o) where
 sub:=λb hb=>by simp at hb;simp[hb]
 frame:=λ_ _ _ st hk=>⟨hk it (by simp) _ st.1,hk S (by simp) _ st.2⟩
 item:=λi s Q E hi st hQ=>by
  obtain⟨x,hx⟩:∃x,vs[i]? = some x:=⟨_,vU (by omega)⟩;refine nK st.1 st.2 hd hf (λA' E' Q' q=>hN i x hx A' E' s Q' st.2 q) λh' h1 h2=>?_;exact hQ x h' s.toks hx ⟨h1,h2.extBut S _ xO st.2⟩ λb u hb e=>h2.extBut b u (λz=>hb (by simp[z])) e
 done:=λs Q E st hQ=>nL hh st.1 st.2 hd hf (λA' E' Q' q=>hE A' E' s Q' st.2 q) λh' h1=>hQ h' s.toks λb u hb e=>h1 b u (λz=>hb (by simp[z])) e
 self:=λ_ _ _ _ st hQ=>pf st.1 hQ
theorem qK {T:Addr}{pl:List Nat}{nt:Nat}(hh:A.handled=none)(hd:o.data=.set es ep t)(hf:t.fits es.size=true)(xO:S≠it)(Lz:T≠it)(hp:pl.Perm (List.range es.size)):
  Walks prog w A it [it,S,T] [it] es.size (λi v=>(pl.map λp=>(es.getD p (0,.none)).2)[i]? = some v)
   (λi h=>h.get? it=some (iz (.ref T) i S es.size ep)/\h.get? S=some o/\h.get? T=some (seqObj "tuple" (pl.map λ(p:Nat)=>Value.int p 0).toArray nt)) where
 sub:=λb hb=>by simp at hb;simp[hb]
 frame:=λ_ _ _ st hk=>⟨hk it (by simp) _ st.1,hk S (by simp) _ st.2.1,hk T (by simp) _ st.2.2⟩
 item:=λi s Q E hi st hQ=>by
  have bT:pl.length=es.size:=by rw[hp.length_eq,List.length_range]
  obtain⟨p,hx⟩:∃p,pl[i]? = some p:=⟨_,vU (by omega)⟩;have L4:p<es.size:=List.mem_range.mp (hp.mem_iff.mp (List.mem_of_getElem? hx));have he:es[p]? = some (es.getD p (0,.none)):=by rw[Array.getD_eq_getD_getElem?,Array.getElem?_eq_getElem L4];rfl
  refine lM st.1 st.2.2 st.2.1 hd hf hx he λh' h1 h2=>?_;exact hQ _ h' s.toks (by simp[hx]) ⟨h1,h2.extBut S _ xO st.2.1,h2.extBut T _ Lz st.2.2⟩ λb u hb e=>h2.extBut b u (λz=>hb (by simp[z])) e
 done:=λs Q E st hQ=>by
  have bT:pl.length=es.size:=by rw[hp.length_eq,List.length_range]
  exact lN hh st.1 st.2.2 st.2.1 hd hf (List.getElem?_eq_none (by omega)) λh' h1=>hQ h' s.toks λb u hb e=>h1 b u (λz=>hb (by simp[z])) e
 self:=λ_ _ _ _ st hQ=>pf st.1 hQ
end
theorem qL {α:Type}(es:Array α)(d:α):(List.range es.size).map (λp=>es.getD p d)=es.toList:=by
 apply List.ext_getElem?;intro i;by_cases h:i<es.size
 ·simp[h,Array.getD_eq_getD_getElem?]
 ·simp[h]
section
variable {prog:Program}{w:World}{A:Around}{E:Value->Shared->Prop}{s:Shared}
theorem my (h:xs=#[j]):SetTable.below xs k=if j<k then 1 else 0:=by
 subst h;by_cases h:j<k
 ·simp[SetTable.below,SetTable.below.go,h]
 ·simp[SetTable.below,SetTable.below.go,h]
theorem wd {S:Addr}{ts:List Str}{Q:Value->Shared->Prop}(hS:fo prog w s.heap S ts)
  (hQ:∀(h':Heap)(d:Drawn)(it:Addr)(vs:List Value)(fp:List Addr)(St:Nat->Heap->Prop),(∀A',A'.handled=none->Walks prog w A' it fp [it] ts.length (λi v=>vs[i]? = some v) St)->St 0 h' ->
   (∀b u,s.heap.get? b=some u->h'.get? b=some u)->s.heap.objs.size<=it->(∀b∈fp,b=S∨s.heap.objs.size<=b)->vs.length=ts.length->(vs.map strOf).Perm ts->(∀v∈vs,∃x t,v=.str x t) ->
   Q (.ref it) { s with heap:=h',drawn:=d }):wpAny (model prog w) A (pyIter (.ref S)) Q E s:=by
 obtain⟨o,es,ep,t,ho,u6,hd,xP,hp,nd,hb,hf,zI,hpl⟩:=hS;have sz:es.size=ts.length:=by rw[←hp.length_eq,vH,vF]
 have Cs:S<s.heap.objs.size:=vX ho;have J9:s.TypeIs (.ref S) "set":=⟨_,ho,u6.1⟩;have xE:∀e∈es.toList,∃x t,e.2=.str x t:=λe he=>by
  obtain⟨⟨k,hk,_⟩,_⟩:=xP e he;obtain⟨t,q⟩:=Value.isStrOf_shape (show Value.isStrOf k e.2=true from hk);exact⟨k,t,q⟩
 refine wpAny_pyIter_slot J9 PySem.F.slot_set_iter (wpAny_call_entry PySem.F.slot_set_iter J9 jR ?_ (PySem.F.args_set_iter_1 _));show wpAny _ _ (Builtin.Frozenset.sizeOf S>>=_) _ _ s;unfold Builtin.Frozenset.sizeOf;refine wX (wX (wpAny_setEntries_of ho hd hf (wY ?_)));unfold setDrawn setsByText;refine wX (wX (wpAny_setState_of ho hd hf ?_));dsimp only;refine wX (wX (wpAny_askSetting (wY (wY ?_))));show wpAny _ _ (if(!w.params.followText "set-order" && (!t.plain && decide (es.size > 1)))=true then _ else _) _ _ _;have Ct:(es.toList.map (·.2)).map strOf=es.toList.map (λe=>strOf e.2):=by rw[List.map_map];rfl
 by_cases AB:w.params.followText "set-order" = true
 ·rw[if_neg (by rw[AB];simp)];refine wX (wY ?_);refine wX (wpAny_setEpoch_of ho hd hf ?_);have pp:=tN (w.params.setOrder S ep) es;have bT:((pickOrder (w.params.setOrder S ep) es).toList.map (·.2)).length=es.size:=by rw[vH,pp.length_eq,vF]
  refine wX (wpAny_newObj_type (wY ⟨_,rfl,"set_iterator",_,⟨_,vY _ rfl,rfl⟩,aW.lookup,?_⟩));refine hQ _ s.drawn s.heap.objs.size ((pickOrder (w.params.setOrder S ep) es).toList.map (·.2)) [s.heap.objs.size,S] (λi h=>h.get? s.heap.objs.size=some (iz (.int ((λ_=>0:Nat->Nat) i:Nat) 0) i S es.size ep)/\h.get? S=some o) (λA' hA=>?_) ?_ (λb u e=>vZ _ e) (vT _) (λb hb=>?_) (bT.trans sz) ?_ ?_
  ·rw[←sz];exact mx hA hd hf (vS Cs) _ bT (λ_=>0) (λi x hx A' E' s Q' h1 h2=>mw h1 hd hf AB (by
    rw[vA,Array.getElem?_toList]at hx;obtain⟨e,he,rfl⟩:=oY hx;rw[he];exact h2)) (λA' E' s Q' h1 h2=>mw h1 hd hf AB (by
    rw[Array.getElem?_eq_none (by rw[←vF,pp.length_eq,vF];exact vT _)];exact h2))
  ·exact⟨vY _ rfl,vZ _ ho⟩
  ·simp only[List.mem_cons,List.not_mem_nil,or_false]at hb;rcases hb with rfl|rfl
   ·exact .inr (vT _)
   ·exact .inl rfl
  ·refine List.Perm.trans ?_ hp;rw[←Ct];exact(pp.map _).map _
  ·intro v hv;obtain⟨e,he,rfl⟩:=vO hv;exact xE e (pp.mem_iff.mp he)
 ·rw[Bool.not_eq_true]at AB;have hl:t.led=true:=by rw[zI,AB];rfl
  by_cases h1:es.size<=1
  ·rw[if_neg (by rw[decide_eq_false (by omega)];simp)];refine wX (wY ?_);refine wX (wpAny_setEpoch_of ho hd hf ?_);refine wX (wpAny_newObj_type (wY ⟨_,rfl,"set_iterator",_,⟨_,vY _ rfl,rfl⟩,aW.lookup,?_⟩));have Mx:t.place.size=es.size:=by
    simp only[SetTable.fits,vC,beq_iff_eq,decide_eq_true_eq]at hf;exact hf.1
   refine hQ _ s.drawn s.heap.objs.size (es.toList.map (·.2)) [s.heap.objs.size,S] (λi h=>h.get? s.heap.objs.size=some (iz (.int ((λi=>if i=0 then 0 else t.place.getD 0 0+1:Nat->Nat) i:Nat) 0) i S es.size ep)/\h.get? S=some o) (λA' hA=>?_) ?_ (λb u e=>vZ _ e) (vT _) (λb hb=>?_) (by rw[vH,vF,sz]) (by rw[Ct];exact hp) ?_
   ·rw[←sz];refine mx hA hd hf (vS Cs) _ (by simp) (λi=>if i=0 then 0 else t.place.getD 0 0+1) (λi x hx A' E' s Q' q1 q2=>kI q1 hd hf AB hl h1 ?_) (λA' E' s Q' q1 q2=>kI q1 hd hf AB hl h1 ?_)
    ·have hi:i<es.size:=by have:=(vV hx).1;simpa using this
     have L5:i=0:=by omega
     subst L5;obtain⟨j,hj⟩:∃j,t.place=#[j]:=Array.size_eq_one_iff.mp (by omega);rw[if_pos rfl,my hj,if_neg (by omega)];rw[vA,Array.getElem?_toList]at hx;obtain⟨e,he,rfl⟩:=oY hx;rw[he];simp only[hj]at q2 ⊢;simpa using q2
    ·by_cases h0:es.size=0
     ·have HS:t.place=#[]:=Array.eq_empty_of_size_eq_zero (by omega);have L6:es=#[]:=Array.eq_empty_of_size_eq_zero h0;rw[HS,L6];simpa using q2
     ·obtain⟨j,hj⟩:∃j,t.place=#[j]:=Array.size_eq_one_iff.mp (by omega);rw[if_neg h0,my hj];have:t.place.getD 0 0=j:=by rw[hj];rfl
      rw[this,if_pos (by omega),Array.getElem?_eq_none (by omega)];exact q2
   ·exact⟨vY _ rfl,vZ _ ho⟩
   ·simp only[List.mem_cons,List.not_mem_nil,or_false]at hb;rcases hb with rfl|rfl
    ·exact .inr (vT _)
    ·exact .inl rfl
   ·intro v hv;obtain⟨e,he,rfl⟩:=vO hv;exact xE e he
  ·have HS:t.plain=false:=hpl (by omega);rw[if_pos (by rw[AB,HS,decide_eq_true (by omega)];rfl)];refine wX (so es.size (List.range es.size) _ _ (by simp) λpl d pp=>?_);refine wX (wpAny_newTuple ?_ (by rw[vH,pp.length_eq,List.length_range,sz];exact fits_of_scanBound hb));refine wX (wpAny_setEpoch_of (vZ _ ho) hd hf ?_);refine wX (wpAny_newObj_type (wY ⟨_,rfl,"set_iterator",_,⟨_,vY _ rfl,rfl⟩,aW.lookup,?_⟩));have hsz:(s.heap.push (seqObj "tuple" (pl.map λ(p:Nat)=>Value.int p 0).toArray 0)).objs.size=s.heap.objs.size+1:=size_push' _ _;have fj:((pl.map λp=>(es.getD p (0,.none)).2)).Perm (es.toList.map (·.2)):=by
    have:=(pp.map λp=>es.getD p (0,Value.none)).map (·.2);rw[qL]at this;rw[List.map_map]at this;exact this
   refine hQ _ d _ (pl.map λp=>(es.getD p (0,.none)).2) [(s.heap.push (seqObj "tuple" (pl.map λ(p:Nat)=>Value.int p 0).toArray 0)).objs.size,S,s.heap.objs.size] (λi h=>h.get? (s.heap.push (seqObj "tuple" (pl.map λ(p:Nat)=>Value.int p 0).toArray 0)).objs.size=some (iz (.ref s.heap.objs.size) i S es.size ep)/\h.get? S=some o/\h.get? s.heap.objs.size=some (seqObj "tuple" (pl.map λ(p:Nat)=>Value.int p 0).toArray 0)) (λA' hA=>?_) ?_ (λb u e=>vZ _ (vZ _ e)) ?_ (λb hb=>?_) ?_ ?_ ?_
   ·rw[←sz];exact qK (nt:=0) hA hd hf (by show S≠(s.heap.push _).objs.size;rw[size_push'];exact vS (Nat.lt_succ_of_lt Cs)) (by show s.heap.objs.size≠(s.heap.push _).objs.size;rw[size_push'];exact vS (Nat.lt_succ_self _)) pp
   ·exact⟨vY _ rfl,vZ _ (vZ _ ho),vZ _ (vY _ rfl)⟩
   ·show s.heap.objs.size<=(s.heap.push _).objs.size;rw[size_push'];omega
   ·simp only[List.mem_cons,List.not_mem_nil,or_false]at hb;rcases hb with rfl|rfl|rfl
    ·refine .inr ?_;show s.heap.objs.size<=(s.heap.push _).objs.size;rw[size_push'];omega
    ·exact .inl rfl
    ·exact .inr (vT _)
   ·rw[fj.length_eq,vH,vF,sz]
   ·exact((fj.map strOf).trans (by rw[Ct])).trans hp
   ·intro v hv;obtain⟨e,he,rfl⟩:=vO (fj.mem_iff.mp hv);exact xE e he
end
theorem tO (h:ItemsOf (λi v=>vs[i]? = some v) jf vs.length):jf.toList=vs:=by
 apply List.ext_getElem?;intro i;by_cases hi:i<jf.size
 ·have e:jf[i]? = some jf[i]:=Array.getElem?_eq_getElem hi;rw[Array.getElem?_toList,e,h.2 i _ e]
 ·rw[List.getElem?_eq_none (by rw[vF];omega),List.getElem?_eq_none (by rw[←h.1];omega)]
section
variable {prog:Program}{w:World}{A:Around}{E:Value->Shared->Prop}{s:Shared}
theorem ph (hh:A.handled=none)(hS:fo prog w s.heap S ts)
  (hQ:∀s' vs,(∀b u,s.heap.get? b=some u->s'.heap.get? b=some u)->s'.gens=s.gens->s'.os=s.os->vs.length=ts.length->(vs.map strOf).Perm ts->(∀v∈vs,∃x t,v=.str x t)->Q vs s'):
  wpAny (model prog w) A (collect (.ref S)) Q E s:=by
 have CO:∀(s1:Shared),fo prog w s1.heap S ts->s1.TypeIs (.ref S) "set":=λs1 h=>by
  obtain⟨o,_,_,_,ho,u6,_⟩:=h;exact⟨o,ho,u6.1⟩
 have fH:S<s.heap.objs.size:=by obtain⟨o,_,_,_,ho,_⟩:=hS;exact vX ho
 have Fd:ts.length<scanBound:=by obtain⟨_,_,_,_,_,_,_,_,_,_,h,_⟩:=hS;exact h
 unfold collect;refine wX (wpAny_runValue (codeAny_builtin PySem.F.entry_proto_collect ?_));rw[Around.under_plainId PySem.F.plain_proto_collect _];show wpAny _ A.in1 (newList []>>=λl=>again (.builtin "list.__iadd__" ⟨[l,.ref S],[]⟩)) _ _ s;refine wX (wpAny_newObj_type ?_);refine wY ⟨plainId_quiet PySem.F.plain_list_iadd _,codeAny_builtin PySem.F.entry_list_iadd ?_⟩;rw[Around.under_plainId PySem.F.plain_list_iadd _];show wpAny _ A.in1 (Builtin.List.listExtendWith (.ref s.heap.objs.size) (.ref S) (.ref s.heap.objs.size)) _ _ _;unfold Builtin.List.listExtendWith;have HU:fo prog w (s.heap.push { cls:=.type "list",data:=.seq ([]:List Value).toArray }) S ts:=hS.at λo e=>vZ _ e;refine wX (wpAny_typeOf (CO _ HU) ?_);have JB:s.heap.objs.size≠S:=Nat.ne_of_gt fH;have h1:Builtin.List.listSameRef (.ref s.heap.objs.size) (.ref S)=false:=by simp[Builtin.List.listSameRef,JB]
 have h2:(Value.type "set" == Value.type "list")=false:=by decide
 have h3:(Value.type "set" == Value.type "tuple")=false:=by decide
 simp only[h1,h2,h3,Bool.or_false,uV,if_false];refine wX (wd (s:={ s with heap:=s.heap.push { cls:=.type "list",data:=.seq ([]:List Value).toArray } }) HU λh' d it vs fp St W jh hk Gg hfp Ck fj hstr=>?_);have AA:fo prog w h' S ts:=HU.at λo e=>hk _ _ e;refine wX (wpAny_holding ?_);unfold Builtin.List.listLengthHint;refine wX (wpAny_specialOf (CO _ AA) PySem.F.slot_set_len.lookup ?_);wp_delta;refine wX (wpAny_isInstance (CO _ AA) sub_set_self ?_);show wpAny _ A.in1 (typeOf (Value.ref S)>>=_) _ _ _;refine wX (wpAny_typeOf (CO _ AA) ?_);refine wY ?_;rw[if_pos (by decide)];refine wX (wpAny_rule ?_);refine wX ?_;have Fe:(s.heap.push { cls:=.type "list",data:=.seq ([]:List Value).toArray }).objs.size=s.heap.objs.size+1:=size_push' _ _;have JD:h'.get? s.heap.objs.size=some { cls:=.type "list",data:=.seq ([]:List Value).toArray }:=hk _ _ (vY _ rfl);show wpAny _ A.in1 (updateSeq s.heap.objs.size (·.push .none)>>=λ_=>updateSeq s.heap.objs.size (·.pop)) _ _ _;refine wX (wpAny_updateSeq JD rfl ?_);have JF:=Heap.get?_update_self (Obj.mapSeq (·.push Value.none)) JD rfl;refine wpAny_updateSeq JF rfl ?_;have L7:=Heap.get?_update_self (Obj.mapSeq (·.pop)) JF rfl;have sV:s.heap.objs.size∉fp:=λhm=>by
  rcases hfp _ hm with z|z
  ·exact JB z
  ·rw[Fe]at z;exact absurd z (Nat.not_succ_le_self _)
 have JG:∀b u,b≠s.heap.objs.size->h'.get? b=some u ->
   ((h'.update s.heap.objs.size (Obj.mapSeq (·.push Value.none))).update s.heap.objs.size (Obj.mapSeq (·.pop))).get? b=some u :=
  λb u hb e=>(Heap.get?_update_other _ _ (Ne.symm hb)).trans ((Heap.get?_update_other _ _ (Ne.symm hb)).trans e)
 have W0:=W A.in1 hh;refine wY ⟨plainId_quiet PySem.F.plain_extend_loop _,codeAny_extend_loopS W0.toS (fits_of_scanBound Fd) _ sV _ ts.length 0 _ _ _ rfl (uN _)
  (W0.frame 0 _ _ jh λb hb u e=>JG b u (λz=>sV (z ▸ hb)) e) L7 (ItemsOf.nil _) λs' acc' c' hm hL' hacc=>?_⟩
 show wpAny _ A (load s.heap.objs.size>>=_) _ _ s';refine wX (wpAny_load hL' ?_);rw[←Ck]at hacc;refine wY ?_;show Q acc'.toList s';rw[tO hacc];refine hQ s' vs (λb u e=>hm.heap b u (λhb=>?_) (JG b u (vS (vX e)) (hk _ _ (vZ _ e)))) hm.gens hm.os Ck fj hstr;have hl:=vX e;simp only[List.mem_cons,List.not_mem_nil,or_false]at hb;rcases hb with rfl|rfl
 ·exact absurd hl (Nat.lt_irrefl _)
 ·rw[Fe]at Gg;exact absurd (vQ hl (Nat.le_of_succ_le Gg)) (Nat.lt_irrefl _)
theorem qM (hh:A.handled=none)(hS:fo prog w s.heap S ts)(AD:ts.length<64)
  (hQ:∀(s1:Shared)(h':Heap)(a:Addr)(out:Array Value)(n:Nat)(CS:List Str),(∀b u,s.heap.get? b=some u->s1.heap.get? b=some u)->s1.os=s.os->s1.gens=s.gens->(∀b u,s1.heap.get? b=some u->h'.get? b=some u)->s1.heap.objs.size<=a->h'.get? a=some (seqObj "list" out n) ->
   StrsAre out.toList CS->CS.Perm ts->sortedS CS=true->Q (.ref a) { s1 with heap:=h' }):
  wpAny (model prog w) A (call (.builtin "sorted") [.ref S]) Q E s:=by
 refine Calls.call_function_entry kind_sorted plain_sorted entry_sorted (args_sorted1 _) ?_;unfold Builtin.«sorted»;refine wX (m:=checkCount "sorted" 1 1 _) (wY ?_);refine wX (ph (A:=A.in1) (by exact hh) hS λs1 vs hk hg z5 Ck fj hstr=>?_);have jh:StrsAre vs (vs.map strOf):=strsAre_map vs hstr;refine wX (wpAny_newList ?_ (by rw[Ck,sizeLine_eq];omega));have E5:(s1.heap.push (seqObj "list" vs.toArray 0)).get? s1.heap.objs.size=some (seqObj "list" vs.toArray 0):=vY _ rfl;show wpAny _ _ _ _ _ { s1 with heap:=s1.heap.push (seqObj "list" vs.toArray 0) };refine wX (wpAny_holding (wpAny_call_entry slot_list_sort ⟨_,E5,rfl⟩ entry_list_sort (list_sort_treeK strKind_oneLt E5 jh.keysOf (λv₁ v₂ aA e=>keyKind_strs (by rw[←e];exact jh)) (by rw[Ck];exact AD) λoi a1 a2=>⟨_,rfl,?_⟩) (args_list_sort _)));obtain⟨CS,b1,b2,b3⟩:=sorted_out_str jh a1 a2;obtain⟨e,he⟩:=sortedHeap_at (out:=(arrOf oi).map (·.2)) E5;refine wY ⟨_,rfl,hQ s1 _ _ _ e CS hk z5 hg (λb u q=>?_) (vT _) he b1 (b2.trans fj) b3⟩;have hl:=vX q;rw[sortedHeap_old (vS hl) (by rw[size_push'];exact Nat.lt_succ_of_lt hl)];exact vZ _ q
end
end DL
namespace DL
open PySem PySem.Spec PyProof.Rows L2
def nM (a b:Str):Prop:=¬b.cps.toList<a.cps.toList
theorem su:ltCps b.cps.toList a.cps.toList=false↔nM a b:=by rw[ltCps_eq,decide_eq_false_iff_not];rfl
theorem mz (h:nM a b)(k:nM b c):nM a c:=by
 unfold nM at *;exact List.not_lt.mpr (List.le_trans (List.not_lt.mp h) (List.not_lt.mp k))
theorem we (h:nM a b)(k:nM b a):a=b:=by
 have e:a.cps.toList=b.cps.toList:=List.le_antisymm (List.not_lt.mp h) (List.not_lt.mp k);obtain⟨a⟩:=a;obtain⟨b⟩:=b;have:a=b:=Array.toList_inj.mp e;rw[this]
noncomputable def qN (x:Str):List Str->List Str
 |[]=>[x]
 |y::r=>if ltCps y.cps.toList x.cps.toList then y::qN x r else x::y::r
noncomputable def iS (l:List Str):List Str:=l.foldr qN []
theorem jr (x:Str):∀l,(qN x l).Perm (x::l)
 |[]=>List.Perm.refl _
 |y::r=>by
  unfold qN;split
  ·exact((jr x r).cons y).trans (List.Perm.swap x y r)
  ·exact List.Perm.refl _
theorem eN:∀l,(iS l).Perm l
 |[]=>List.Perm.refl _
 |x::l=>(jr x (iS l)).trans ((eN l).cons x)
theorem m4 (x:Str):∀l,l.Pairwise nM->(qN x l).Pairwise nM
 |[],_=>by simp[qN]
 |y::r,h=>by
  obtain⟨h1,h2⟩:=List.pairwise_cons.mp h;unfold qN;split
  ·rename_i hl;refine List.pairwise_cons.mpr ⟨λz hz=>?_,m4 x r h2⟩;rcases vP ((jr x r).mem_iff.mp hz)with rfl|hz
   ·rw[ltCps_eq,decide_eq_true_eq]at hl;exact λk=>List.lt_irrefl _ (List.lt_trans hl k)
   ·exact h1 z hz
  ·rename_i hl;rw[Bool.not_eq_true]at hl;have Gh:nM x y:=su.mp hl;refine List.pairwise_cons.mpr ⟨λz hz=>?_,h⟩;rcases vP hz with rfl|hz
   ·exact Gh
   ·exact mz Gh (h1 z hz)
theorem kJ:∀l,(iS l).Pairwise nM
 |[]=>List.Pairwise.nil
 |x::l=>m4 x _ (kJ l)
theorem j8:∀(l:List Str)(p:Str),risingS p l=true->(p::l).Pairwise nM
 |[],p,_=>List.pairwise_singleton _ _
 |x::r,p,h=>by
  have h':(!ltCps x.cps.toList p.cps.toList && risingS x r)=true:=h;rw[vC]at h';have JH:nM p x:=su.mp (by simpa using h'.1);have ih:=j8 r x h'.2;refine List.pairwise_cons.mpr ⟨λz hz=>?_,ih⟩;rcases vP hz with rfl|hz
  ·exact JH
  ·exact mz JH ((List.pairwise_cons.mp ih).1 z hz)
theorem pi:∀(l:List Str),sortedS l=true->l.Pairwise nM
 |[],_=>List.Pairwise.nil
 |x::r,h=>j8 r x h
theorem pj (a:Str):nM a a:=List.lt_irrefl _
theorem kK:∀(l1 l2:List Str),l1.Perm l2->l1.Pairwise nM->l2.Pairwise nM->l1=l2
 |[],l2,p,_,_=>(List.nil_perm.mp p).symm
 |x::r1,[],p,_,_=>absurd p.length_eq (by simp)
 |x::r1,y::r2,p,h1,h2=>by
  have Gh:nM x y:=by
   rcases vP (p.mem_iff.mpr (mX ..))with z|z
   ·rw[z];exact pj _
   ·exact(List.pairwise_cons.mp h1).1 y z
  have L9:nM y x:=by
   rcases vP (p.mem_iff.mp (mX ..))with z|z
   ·rw[z];exact pj _
   ·exact(List.pairwise_cons.mp h2).1 x z
  have e:=we Gh L9;subst e;rw[kK r1 r2 (List.Perm.cons_inv p) (List.pairwise_cons.mp h1).2 (List.pairwise_cons.mp h2).2]
theorem tP (p:l'.Perm l)(h:sortedS l'=true):l'=iS l:=kK _ _ (p.trans (eN l).symm) (pi _ h) (kJ l)
section
variable {X:Cx}
noncomputable def pk (X:Cx)(S:Addr)(ts:List Str):HO:=.ext λh=>fo X.prog X.w h S ts
theorem tQ (I:Inv X ac σ H s)(k:∀b u,s.heap.get? b=some u->s1.heap.get? b=some u)(ho:s1.os=s.os)(hg:s1.gens=s.gens):Inv X ac σ H s1:=by
 have I1:=I.step (g':=s.gens) (d':=s1.drawn) (t':=s1.toks) (h':=s1.heap) (H':=H) (ch:=[]) (λ_ z=>nomatch z) (λb o _ _ _ e _=>k b o e) (λb o _ _ _ e _=>⟨o.slots,k b o e⟩) (λ_ _ _ _ n=>n)
  (λb o _ e=>⟨o,k b o e⟩) (λ_ _ e=>e) (λ_ _ _ e=>e) (λ_ _ e=>e) (λm hm=>?_) (I.hok.kept k) I.bare
 ·obtain⟨h1,g1,d1,t1,o1⟩:=s1;cases ho;cases hg
  exact I1
 ·obtain⟨o,es,ep,ho,r⟩:=hm;exact⟨o,es,ep,k _ o ho,r⟩
theorem j9 (hc:X.calm=true):bN X (.type "set") (λxs H Q=>∃p ys ss,xs=[.ref p]/\gb X.K H p ys/\(∀its,aT ys its->StrsAre its ss)/\ss.length<4000/\∀S,H S=none->Q (.ref S) (upd H S (pk X S (dQ ss)))):=by
 intro ac s σ H xs us Q I r h;obtain⟨p,ys,ss,rfl,hq,hs,AD,q⟩:=h;obtain⟨u,rfl,rx⟩:=kl r;cases rx
 obtain⟨its,r',pl,hz⟩:=I.list hq;have jh:=hs its r';have bT:its.length=ss.length:=by rw[←jh.strs,vH]
 refine kG (I.ok.hd hc) pl.isList (by simpa using jh) (by simp only[vG];unfold scanBound;omega) λh' tk hS hk=>?_;refine⟨.ref s.heap.objs.size,_,I.laid (t':=tk) (λb u e=>hk b u (vX e) e) (vT _) ?_,rfl,q _ (I.hok.fresh (vT _))⟩;refine⟨hS,?_,λh1 h2 z k=>z.at k⟩;obtain⟨o,_,_,_,ho,_⟩:=hS;exact⟨o,ho⟩
theorem jS (hc:X.calm=true):bN X (.builtin "sorted") (λxs H Q=>∃S ts,xs=[.ref S]/\H S=some (pk X S ts)/\ts.length<64/\∀l,H l=none->Q (.ref l) (upd H l (.lst ((iS ts).map .str)))):=by
 intro ac s σ H xs us Q I r h;obtain⟨S,ts,rfl,hS,AD,q⟩:=h;obtain⟨u,rfl,rx⟩:=kl r;cases rx
 have hT:fo X.prog X.w s.heap S ts:=(I.hok S _ hS).1;refine qM (I.ok.hd hc) hT AD λs1 h' a out n CS k1 ho hg k2 hp he jh fj hso=>?_;have e:=tP fj hso;subst e;have I1:=tQ I k1 ho hg;have hv:∀ {its:List Value}{zs:List Str},StrsAre its zs->aT (zs.map V.str) its:=λz=>by
  induction z with
  |nil=>exact .nil
  |cons x t _ ih=>exact .cons ⟨t,rfl⟩ ih
 refine⟨.ref a,_,I1.laid (t':=s1.toks) k2 hp (show bD X.prog X.w _ h' _ (.lst _)from ⟨?_,out.toList,n,hv jh,he⟩),rfl,q _ (I1.hok.fresh hp)⟩;rw[vH,(eN ts).length_eq,sizeLine_eq];omega
end
@[simp] def iT:D->OB
 |.lst ds=>(gI ds).bind λss=>if ss.length<64 then some (.lst ((iS (dQ ss)).map .str),true)else none
 |_=>none
@[simp] def iU:D->OB
 |.lst ds=>(gI ds).bind λss=>if ss.length<4000 then some (.int ((dQ ss).length:Nat),false)else none
 |_=>none
theorem wg:bootBuiltins "sorted" = some (.builtin "sorted"):=by decide +kernel
theorem An:bootBuiltins "set" = some (.type "set"):=by decide +kernel
theorem kL {K:Frag}{N:Hp}:∀(zs:List Str),IsL K N (zs.map V.str) (zs.map D.str)
 |[]=>.nil
 |z::zs=>.cons (.str z) (kL zs)
section
variable {X:Cx}{e:Expr}{pos pos2 p p2:Pos}
theorem qO (hc:X.calm=true)(m1:X.mg "sorted" = none)(m2:X.mg "set" = none)(he:JE X e f)(g1:Gl X "sorted":=by rfl)(g2:Gl X "set":=by rfl)
  (h1:starEach [e] X.env=(false,eval e X.env)::starEach [] X.env:=by rfl):JE X (.Call (.Name "sorted" p) [.Call (.Name "set" p2) [e] [] pos2] [] pos) (f1 iT f):=by
 refine PE.to (fK (jS hc) g1 m1 wg (bJ (jk (j9 hc) g2 m2 An (bJ he cT h1) (he:=h1)) cT)) λσ H Q q=>?_;obtain⟨B,ρ,d',bb,sB,r,ee,q⟩:=q;obtain⟨x1,ex,ee⟩:=oX ee;refine⟨B,ρ,x1.1,x1.2,sB,r,ex,λv H1 N1 xt i1 fr=>?_⟩;obtain⟨xd,xb⟩:=x1;cases i1<;>try (simp[iT]at ee;done)
 rename_i l0 vs ds h hl;simp only[iT]at ee;obtain⟨ss,ez,ee⟩:=oX ee;split at ee
 ·rename_i AD;cases ee
  refine⟨_,_,ss,rfl,xt.nh.seq h,λits r'=>iN r' hl ez,by omega,λS hS=>⟨S,_,rfl,aw,Nat.lt_of_le_of_lt (kF ss) AD,λl sS=>?_⟩⟩;have x2:=Ext.laid (o:=pk X S (dQ ss)) xt.nh hS;have x3:=Ext.laid (o:=.lst ((iS (dQ ss)).map V.str)) x2.nh sS;have LA:H l=none:=((xt.trans x2).hh).free sS;exact q _ _ _ ((xt.trans x2).trans x3) (.lst (gb.of aw) (kL _)) λ_=>⟨_,_,_,rfl,rfl,LA,aw,kL _⟩
 ·cases ee
end
end DL
namespace DL
open PySem PySem.Spec PySem.W PyProof.Rows
inductive Run (n:Nat)(lt:Nat->Nat->Bool){α:Type}:KasT α->α->Prop where
 |ret (a:α):Run n lt (.ret a) a
 |ask {i j:Nat}{k:Bool->KasT α}{a:α}(hi:i<n) (hj:j<n) (h:Run n lt (k (lt i j)) a):Run n lt (.ask i j k) a
theorem Run.bind {n:Nat}{lt:Nat->Nat->Bool}{α β:Type}{t:KasT α}{f:α->KasT β}{a:α}{b:β}(h:Run n lt t a)(k:Run n lt (f a) b):Run n lt (t.bind f) b:=by
 induction h with
 |ret a=>exact k
 |ask hi hj _ ih=>exact .ask hi hj (ih k)
section
variable {n:Nat}{rk:Nat->Int}
structure Arr (n:Nat)(p:Array Nat):Prop where
 size:p.size=n
 perm:p.toList.Perm (List.range n)
theorem Arr.lt {p:Array Nat}(h:Arr n p){k:Nat}(hk:k<n):p.getD k 0<n:=by
 have xB:k<p.size:=by rw[h.size];exact hk
 have:p.getD k 0=p[k]:=by rw[Array.getD_eq_getD_getElem?,Array.getElem?_eq_getElem xB];rfl
 rw[this];exact List.mem_range.mp (h.perm.mem_iff.mp (by simp))
end
section
variable {α:Type}(f:α->List Int)
noncomputable def DU (x:α):List α->List α
 |[]=>[x]
 |y::r=>if f y<f x then y::DU x r else x::y::r
noncomputable def DV (l:List α):List α:=l.foldr (DU f) []
end
inductive At where
 |i (n:Int)
 |s (z:Str)
noncomputable def Kn:At->List Int
 |.i n=>[n]
 |.s z=>z.cps.toList.map (λ(c:Nat)=>(c:Int)+1)++[0]
noncomputable def DW (xs:List At):List Int:=xs.flatMap Kn
noncomputable def BE:List At->List At->Option Bool
 |[],ys=>some (!ys.isEmpty)
 |_::_,[]=>some false
 |.i a::xs,.i b::ys=>if a=b then BE xs ys else some (decide (a<b))
 |.s a::xs,.s b::ys=>if a=b then BE xs ys else some (decide (a.cps.toList<b.cps.toList))
 |_::_,_::_=>none
noncomputable def DX (ks:List (List At)):Bool:=ks.all λx=>ks.all λy=>(BE x y).isSome
def Ko:At->Value->Prop
 |.i n,v=>∃t,v=.int n t
 |.s z,v=>∃t,v=.str z t
def DY (h:Heap)(xs:List At)(v:Value):Prop:=∃a o its n,v=.ref a/\h.get? a=some o/\o.cls=.type "tuple"/\o.data=.seq its n/\Paired Ko xs its.toList
noncomputable def wj (ks:List (List At)):Bool:=ks.all (λx=>match x with|.i _::_=>true|_=>false) || ks.all (λx=>match x with|.s _::_=>true|_=>false)
end DL
namespace DL
open PySem PySem.Spec PySem.W PyProof.Rows L2
noncomputable def DZ:D->Option At
 |.int n=>some (.i n)
 |.str z=>some (.s z)
 |_=>none
def qP:List D->Option (List At)
 |[]=>some []
 |d::ds=>(DZ d).bind λa=>(qP ds).map (a :: ·)
def GL:D->Option (List At)
 |.tup es=>qP es
 |_=>none
def Ao:List D->Option (List (List At))
 |[]=>some []
 |d::ds=>(GL d).bind λa=>(Ao ds).map (a :: ·)
end DL
namespace DL
open PySem PySem.Spec PyProof.Rows L2
section
variable {X:Cx}{e:Expr}{pos pos2 p p2:Pos}
theorem lO:bN X (.builtin "len") (λxs H Q=>∃S ts,xs=[.ref S]/\H S=some (pk X S ts)/\Q (.int (ts.length:Nat)) H):=by
 intro ac s σ H xs us Q I r h;obtain⟨S,ts,rfl,hS,q⟩:=h;obtain⟨u,rfl,rx⟩:=kl r;cases rx
 have hT:fo X.prog X.w s.heap S ts:=(I.hok S _ hS).1;obtain⟨o,es,ep,t,ho,u6,hd,xP,hp,nd,hb,hf,_⟩:=hT;have sz:es.size=ts.length:=by rw[←hp.length_eq,vH,vF]
 have My:ts.length<4096:=hb;exact PySem.call_len_set ho u6 hd hf (by rw[sz];omega) ⟨.int (ts.length:Nat),H,I.tok _,⟨_,by rw[sz]⟩,q⟩
theorem tR (hc:X.calm=true)(m1:X.mg "len" = none)(m2:X.mg "set" = none)(he:JE X e f)(g1:Gl X "len":=by rfl)(g2:Gl X "set":=by rfl)
  (h1:starEach [e] X.env=(false,eval e X.env)::starEach [] X.env:=by rfl):JE X (.Call (.Name "len" p) [.Call (.Name "set" p2) [e] [] pos2] [] pos) (f1 iU f):=by
 refine PE.to (fK lO g1 m1 cP (bJ (jk (j9 hc) g2 m2 An (bJ he cT h1) (he:=h1)) cT)) λσ H Q q=>?_;obtain⟨B,ρ,d',bb,sB,r,ee,q⟩:=q;obtain⟨x1,ex,ee⟩:=oX ee;refine⟨B,ρ,x1.1,x1.2,sB,r,ex,λv H1 N1 xt i1 fr=>?_⟩;obtain⟨xd,xb⟩:=x1;cases i1<;>try (simp[iU]at ee;done)
 rename_i l0 vs ds h hl;simp only[iU]at ee;obtain⟨ss,ez,ee⟩:=oX ee;split at ee
 ·rename_i AD;cases ee
  refine⟨_,_,ss,rfl,xt.nh.seq h,λits r'=>iN r' hl ez,AD,λS hS=>⟨S,_,rfl,aw,?_⟩⟩;have x2:=Ext.laid (o:=pk X S (dQ ss)) xt.nh hS;exact(q.into (xt.trans x2)).one (xt.trans x2).nh (.int _)
 ·cases ee
end
section
variable {X:Cx}{a:Expr}{pos:Pos}{x:Str}{p:Pos}{d:Addr}{b9:List (Str×D)}
theorem tS (cd:iP X.K X.w.params d b9):cG X (compareOp .NotIn) (λx y H Q=>∃z,x=.str z/\y=.ref d/\Q (.bl (!(b9.lookup z).isSome)) H):=by
 rintro ac s σ H _ _ v u Q I rx ry ⟨z,rfl,rfl,q⟩;cases ry
 obtain⟨t,rfl⟩:=rx;obtain⟨f,hM,sm,hf⟩:=cd.map I;refine wpAny_notIn_of (strKind_is X.prog X.w z t) sm hM ⟨.bl (!(b9.lookup z).isSome),H,I.tok _,?_,q⟩;have:=hf z;cases el:b9.lookup z with
 |none=>rw[el]at this;dsimp only at this;rw[this];rfl
 |some dd=>rw[el]at this;obtain⟨_,_,e1,_⟩:=this;rw[e1];rfl
theorem tT (h:∃d,X.mg x=some (.ref d)/\iP X.K X.w.params d b9)(ha:JE X a f)(hg:Gl X x:=by rfl)(hd:(x == ("__debug__" : Str))=false:=by decide)(hm:behindInMarks .NotIn (.Name x p)=false:=by rfl):JT X (.Compare a [.NotIn] [.Name x p] pos) (bE (f1 (kD b9) f)):=by
 obtain⟨d,hmg,cd⟩:=h;refine PT.to (rB (tS cd) ha (dX (v:=.ref d) hg hmg rfl hd) hm) λσ H Q q=>?_;obtain⟨B,ρ,d',bb,sB,r,ee,q⟩:=nq q;obtain⟨x1,ex,ee⟩:=oX ee;refine⟨B,ρ,x1.1,x1.2,sB,r,ex,λv H1 N1 xt i1 fr=>?_⟩;obtain⟨xd,xb⟩:=x1;cases i1<;>try (simp[kD]at ee;done)
 rename_i z;simp only[kD]at ee;cases ee
 exact⟨z,rfl,rfl,(q.into xt).one xt.nh (.bl _)⟩
end
section
variable {prog:Program}{w:World}{A:Around}{E:Value->Shared->Prop}{s:Shared}
theorem qQ {a:Addr}{o:Obj}{its:Array Value}{n:Nat}{x:Value}{e:Value->Bool}{j:Nat}{P:PySem.Fin->Shared->Prop}(ho:s.heap.get? a=some o)(hd:o.data=.seq its n)
  (he:∀y∈its,MeetsSeq.EqGives y x (e y)) (hj:j<its.size) (Gg:e its[j]=true) (CN:∀m (hm:m<its.size),m<j->e its[m]=false)
  (h:P (.done (.ret (.int j s.toks))) { s with toks:=s.toks+1 }):wpAny (model prog w) A (Builtin.«tuple.index» ⟨[.ref a,x],[]⟩) P E s:=by
 show wpAny _ _ (Builtin.Tuple.tupleItemsOf (.ref a)>>=_) _ _ s;refine wX (wpAny_tupleItemsOf ho hd ?_);dsimp only;refine wX (wY (wX (wY (wX ?_))));rw[Std.Legacy.Range.forIn_eq_forIn_range'];refine wpAny_forIn_list _
  (λaA r s'=>r.1=none/\s'=s/\∃i,i<=j/\aA=List.range' i (its.size - i))
  _ ?_ ?_ _ _ ⟨rfl,rfl,0,uN _,?_⟩
 ·rintro k aA r s' ⟨hr,rfl,i,hi,hz⟩;have fH:i<its.size:=by omega
  obtain⟨m,hm⟩:∃m,its.size - i=m+1:=⟨its.size - i - 1,by omega⟩;rw[hm,List.range'_succ]at hz;injection hz with z1 z2;have z1:=z1.symm;subst z1;subst z2;have hg:its[i]? = some its[i]:=by simp[fH]
  simp only[hg];refine wX (he _ (Array.getElem_mem fH) prog w _ _ _ _ ?_);by_cases hij:i=j
  ·subst hij;rw[Gg];simp only[if_true];refine wX ?_;show wpAny _ _ (mkInt (i:Int)>>=λv=>ret v) _ _ _;exact wX (wpAny_mkInt (wY (wY (wY h))))
  ·rw[CN i fH (by omega)];simp only[uV,if_false];exact wY ⟨rfl,rfl,i+1,by omega,by rw[show its.size - (i+1)=m by omega]⟩
 ·rintro⟨r1,r2⟩ s' ⟨hr,rfl,i,hi,hz⟩;exfalso;have:(List.range' i (its.size - i)).length=0:=by rw[←hz];rfl
  rw[List.length_range']at this;omega
 ·simp
end
theorem CRows.findT {K:Frag}{P:Params}(y:Str){ds:List D}:∀ {es:List DictEntry}{b9:List (Str×D)},CRows K P es b9->b9.lookup y=some (.tup ds) ->
  ∃e a its n jz,es.find? (λe=>Value.isStrOf y e.key)=some e/\e.val=.ref a/\K.lookup a=some ⟨.type "tuple",none,.seq its n,jz⟩/\gi its.toList ds=true
 |_,_,.nil,h=>by simp at h
 |_,_,.tup (x:=x) (t:=t) (a:=a) (ds:=z7) hh l f tl,h=>by
  by_cases e:y=x
  ·subst e;rw[List.lookup_cons_self]at h;cases h
   rw[vC]at f;exact⟨_,a,_,_,_,List.find?_cons_of_pos (by simp[Value.isStrOf]),rfl,l,f.2⟩
  ·rw[List.lookup_cons,beq_eq_false_iff_ne.mpr e]at h;have nf:Value.isStrOf y (Value.str x t)=false:=by
    rw[Bool.eq_false_iff];intro z;obtain⟨t',q⟩:=Value.isStrOf_shape z;injection q with q1;exact e q1.symm
   simp only[List.find?_cons,nf];exact tl.findT y h
 |_,_,.flat (x:=x) (t:=t) (u:=u) (d:=d) hh f tl,h=>by
  by_cases e:y=x
  ·subst e;rw[List.lookup_cons_self]at h;cases h
   cases u<;>simp[nF]at f
  ·rw[List.lookup_cons,beq_eq_false_iff_ne.mpr e]at h;have nf:Value.isStrOf y (Value.str x t)=false:=by
    rw[Bool.eq_false_iff];intro z;obtain⟨t',q⟩:=Value.isStrOf_shape z;injection q with q1;exact e q1.symm
   simp only[List.find?_cons,nf];exact tl.findT y h
section
variable {X:Cx}{b e:Expr}{pos:Pos}{x:Str}{p:Pos}
def GN (K:Frag):V->List V->Hp->VK->Prop:=λx xs H Q=>∃(a:Addr)(o:Obj)(its:Array Value)(n:Nat)(zs:List Str)(y:Str),x=.ref a/\xs=[.str y]/\K.lookup a=some o/\o.cls=.type "tuple"/\o.data=.seq its n/\StrsAre its.toList zs/\zs.findIdx (· == y)<zs.length/\Q (.int (zs.findIdx (· == y):Nat)) H
noncomputable def Ap (y:Str):Value->Bool
 |.str z _=>z == y
 |_=>false
theorem sv:∀ {its:List Value}{zs:List Str},StrsAre its zs->∀(i:Nat)(hi:i<its.length),∃(h:i<zs.length)(t:Tok),its[i]=.str zs[i] t
 |_,_,.cons z t h,0,_=>⟨by simp,t,rfl⟩
 |_,_,.cons z t h,i+1,hi=>by
  obtain⟨h',t',e⟩:=sv h i (by simpa using hi);exact⟨by simpa using h',t',by simpa using e⟩
 |_,_,.nil,i,hi=>by simp at hi
theorem pr:∀ {its:List Value}{zs:List Str},StrsAre its zs->its.length=zs.length
 |_,_,.nil=>rfl
 |_,_,.cons _ _ h=>by rw[vD,vD,pr h]
theorem wk:Bg X "tuple.index" (GN X.K):=by
 intro ac s σ H x xs v us Q I rx rv h;obtain⟨a,o,its,n,zs,y,rfl,rfl,lk,hc,hd,hz,hk,q⟩:=h;cases rx
 obtain⟨u,rfl,⟨t,rfl⟩⟩:=rv.one;have ho:=I.kIn a o lk;have hl:=pr hz;rw[vF]at hl;have at':∀(i:Nat)(hi:i<its.size),∃(h:i<zs.length)(t:Tok),its[i]=.str zs[i] t:=λi hi=>by
  obtain⟨h',t',e⟩:=sv hz i (by simpa using hi);exact⟨h',t',by simpa using e⟩
 refine wpAny_call_entry PySem.F.slot_tuple_index ⟨o,ho,hc⟩ PySem.F.entry_tuple_index (qQ (e:=Ap y) (j:=zs.findIdx (· == y)) ho hd (λz hm=>?_) (by omega) ?_ (λm hm fH=>?_) ⟨_,rfl,.int (zs.findIdx (· == y):Nat),H,I.tok _,⟨_,rfl⟩,q⟩) (PySem.F.args_tuple_index_2 _ _)
 ·obtain⟨i,hi,rfl⟩:=Array.mem_iff_getElem.mp hm;obtain⟨_,t',e'⟩:=at' i hi;rw[e'];exact eqGives_str _ _ _ _
 ·obtain⟨_,t',e'⟩:=at' (zs.findIdx (· == y)) (by omega);rw[e'];exact List.findIdx_getElem (p:=(· == y)) (w:=hk)
 ·obtain⟨_,t',e'⟩:=at' m hm;rw[e'];have:=List.not_of_lt_findIdx (p:=(· == y)) (xs:=zs) fH;simpa [Ap]using this
@[simp] def pv (b9:List (Str×D)):D->D->OB
 |.str y,.str z=>match b9.lookup y with
  |some (.tup ds)=>(gI ds).bind λzs=>if zs.findIdx (· == z)<zs.length then some (.int (zs.findIdx (· == z):Nat),false)else none
  |_=>none
 |_,_=>none
theorem yO {b9:List (Str×D)}{f g:FE}{gX cY:Pos}(h:∃d,X.mg x=some (.ref d)/\iP X.K X.w.params d b9)(hb:JE X b f)(he:JE X e g)(hg:Gl X x:=by rfl)(ly:(x == ("__debug__" : Str))=false:=by decide)(hs:jX b:=by intro _ _;rfl)
  (l5:attributeBase (.Subscript (.Name x p) b pos) "index" X.env (eval (.Subscript (.Name x p) b pos) X.env)=eval (.Subscript (.Name x p) b pos) X.env:=by rfl)
  (rl:((backTo cY (starEach [e] X.env)).all (λx=>!x.1) && (backToKw cY (keywordEach [] X.env)).all (λx=>x.1.isSome)
   && decide ([e].length+([]:List Keyword).length+(if([]:List Keyword).isEmpty then 0 else 1)<30))=true:=by rfl)
  (l7:(gX.endLine == cY.line)=true:=by rfl) (jh:starEach [e] X.env=[(false,eval e X.env)]:=by rfl):
  JE X (.Call (.Attribute (.Subscript (.Name x p) b pos) "index" gX) [e] [] cY) (f2 (pv b9) f g):=by
 obtain⟨d,hm,cd⟩:=h;have ix:uK X (λx y H Q=>∃z ds,x=.ref d/\y=.str z/\b9.lookup z=some (.tup ds)/\∀a its n jz,X.K.lookup a=some ⟨.type "tuple",none,.seq its n,jz⟩->gi its.toList ds=true->Q (.ref a) H):=by
  intro value slice ac s σ H x y v u Q I rx ry q hs;obtain⟨z,ds,rfl,rfl,el,q⟩:=q;cases rx
  obtain⟨t,rfl⟩:=ry;obtain⟨es,n,l,r,sm⟩:=cd;have hM:=PySem.W.mapOf_K (prog:=X.prog) (w:=X.w) I.kIn l r.lit;obtain⟨en,a,its,n',jz,e1,e2,e3,e4⟩:=r.findT z el;have ff:findBy Value.isStrOf es z=some (.ref a):=by
   unfold findBy;obtain⟨es⟩:=es;rw[List.find?_toArray,e1,←e2];rfl
  exact tail_any hM.typeIs slot_dict_getitem.lookup (wpAny_getItem_of (strKind_is X.prog X.w z t) hM ff ⟨.ref a,H,I.tok _,rfl,q a _ _ _ e3 e4⟩) hs
 refine PE.to (uS (T:="tuple") PySem.F.plainAttrs_tuple PySem.F.slot_tuple_index PySem.F.type_tuple_index wk (uL ix (dX (v:=.ref d) hg hm rfl ly) hb hs) (bJ he cT jh) l5 rl l7 jh rfl) λσ H Q q=>?_;obtain⟨B,ρ,d',bb,sB,r,ee,q⟩:=q;obtain⟨x1,ex,ee⟩:=oX ee;obtain⟨y1,ey,ee⟩:=oX ee;obtain⟨xd,xb⟩:=x1;obtain⟨yd,yb⟩:=y1;cases xd with
 |str z=>
  cases yd with
  |str y=>
   refine⟨B,ρ,_,xb,sB,r,ex,λv H1 N1 xt i1 _=>?_⟩;cases i1
   simp only[pv]at ee;split at ee
   ·rename_i ds el;obtain⟨zs,ez,ee⟩:=oX ee;split at ee
    ·rename_i hk;cases ee
     refine⟨z,ds,rfl,rfl,el,λa its n jz l fl=>⟨.inr (.inl ⟨rfl,_,l,rfl,rfl⟩),N1,ρ,_,yb,xt.nh,r.mono xt.bn,ey,λv2 H2 N2 xF i2 _=>?_⟩⟩;cases i2
     obtain⟨vs,rv,iv⟩:=gj (K:=X.K) fl;exact⟨a,_,its,n,zs,y,rfl,rfl,l,rfl,rfl,iN rv (iv N2) ez,hk,(q.into (xt.trans xF)).one xF.nh (.int _)⟩
    ·cases ee
   ·cases ee
  |_=>simp[pv]at ee
 |_=>simp[pv]at ee
end
open PySem.W (tabIn tabObj CodeHd kla_fn kla_obj kla_eval kla_makeFunction kla_makeFunctionHit kla_callFunE kla_codeExpr envX)
section
variable {P:Program}{w:World}{K:Frag}{mg:Str->Option Value}{base:Heap}
theorem dU.fnL {x:Str}{st:Stmt}{N ps:List Str}{k:Nat}{g:FS}{h:Heap}(F:dU K x st)(X:K.In h)(G:h.Ns mainGlobals mg)(S:FnScope N ps (ar st))
  (ro:∀(kV doc pm:Value)(an:Option Addr)(bM ct:Value)(us:List Value),us.length=ps.length->bindArgs (fnOf x x (c6 st) (ba st) (ar st) .none kV doc pm an bM ct) ⟨us,[]⟩=pure (ps.zip us))
  (hb:∀(f:Addr)(bM:Value)(A:Around)(outer:List PySem.Env)(s:Shared)(H:Hp)(E:XK),(∀c P,tabIn K x=some (c,P)->bM=.ref c)->cE k (A.deeper (envOfC x (ar st) s.heap.objs.size f bM))->nZ (eC kq P w K mg base N x (ar st) f bM A outer s H E).nox (ba st) g):
  Fn P w K mg base (k+1) x (aZ g ps.length (N.length - ps.length)):=by
 obtain⟨f,fd,F1,a⟩:=F;have F2:=F1;obtain⟨oc,od,kV,doc,pm,an,bM,ct,jz,rfl,lk,gt⟩:=F2.ex;have hc:∀c P,tabIn K x=some (c,P)->bM=.ref c:=λc P e=>by
  unfold tabIn at e;simp only[a,lk]at e;split at e
  ·rename_i c' _;split at e
   ·split at e
    ·cases e;rfl
    ·cases e
   ·cases e
  ·cases e
 have len:∀vs H Q E,xK K (aZ g ps.length (N.length - ps.length)) vs H Q E->vs.length=ps.length:=λvs H Q E h=>by
  obtain⟨B,ds,d,b,sB,i,e,q⟩:=h;unfold aZ at e;split at e
  ·rename_i hl;rw[i.length];exact hl
  ·cases e
 refine⟨f,_,ps,rF lk gt S len λA outer s H vs Q E hr h=>⟨_,ki.nox (hb f bM A outer s H E hc hr),?_⟩,mg_of X G a,F1.kp,F1.binds ro⟩;have bT:=len vs H Q E h;obtain⟨B,ds,d,b,sB,i,e,q⟩:=h;unfold aZ at e;rw[if_pos (by rw[←i.length];exact bT)]at e;have s0:=kA (N:=N) sB.1 sB.2 i;rw[bT]at s0;split at e
 ·rename_i d' b' eg;cases e
  exact⟨B,H,_,_,⟨B,s0⟩,eg,λv H' N' x' i' f'=>q v H' N' x' i' f'⟩
 ·rename_i ρ' eg;cases e
  exact⟨B,H,_,_,⟨B,s0⟩,eg,λσ' H' ⟨N',s'⟩=>q .non H' N' s'.ext .non (by simp)⟩
 ·cases e
end
inductive lA (X:Cx)(N':List Str)(scope:Scope)(cl:List (Str×Addr)):Nat->List Nat->Prop where
 |nil {j:Nat}(h:N'.length=j):lA X N' scope cl j []
 |cons {j i:Nat}{r:List Nat}{x:Str}(h1:N'[j]? = some x) (h2:X.N[i]? = some x) (h3:X.env.kindOf x=some .cell∨X.env.kindOf x=some .free)
   (h4:scope.names.lookup x=some .free) (h5:cl.lookup x=X.env.cells.lookup x) (t:lA X N' scope cl (j+1) r):lA X N' scope cl j (i::r)
theorem lA.len:∀ {j:Nat}{cap:List Nat},lA X N' scope cl j cap->N'.length=j+cap.length
 |_,_,.nil h=>by rw[h];rfl
 |j,i::r,.cons _ _ _ _ _ t=>by rw[t.len,vD];omega
theorem lA.get:∀ {j:Nat}{cap:List Nat}{k i:Nat},lA X N' scope cl j cap->cap[k]? = some i->∃x,N'[j+k]? = some x/\X.N[i]? = some x/\(X.env.kindOf x=some .cell∨X.env.kindOf x=some .free) /\
  scope.names.lookup x=some .free/\cl.lookup x=X.env.cells.lookup x
 |_,_,_,_,.nil _,e=>by simp at e
 |j,_,0,_,.cons h1 h2 h3 h4 h5 _,e=>by simp at e;subst e;exact⟨_,h1,h2,h3,h4,h5⟩
 |j,_,k+1,i,.cons _ _ _ _ _ t,e=>by
  obtain⟨x,q,r⟩:=t.get (k:=k) (i:=i) (by simpa using e);exact⟨x,by rw[show j+(k+1)=j+1+k by omega];exact q,r⟩
end DL
namespace DL
open PySem PySem.Spec PySem.W PyProof.Rows L2
noncomputable def Ea (f:D->Option D):List D->Option (List D)
 |[]=>some []
 |d::ds=>(f d).bind λx=>(Ea f ds).map (x :: ·)
def wl (ks:List (List At))(ds:List D):List D:=(DV (λp:List At×D=>DW p.1) (ks.zip ds)).map (·.2)
@[simp] def wm (kd:List D->Option (List (List At)))(ok:List (List At)->Bool)(f:FE)(kf:Env->D->Option D):FE:=λρ=>(f ρ).bind λx=>match x.1 with
 |.lst ds=>(Ea (kf ρ) ds).bind λLB=>(kd LB).bind λks=>if ks.length<64/\DX ks=true/\ok ks=true/\(ks.map DW).Nodup then some (.lst (wl ks ds),true)else none
 |_=>none
@[simp] abbrev GO:FE->(Env->D->Option D)->FE:=wm Ao wj
section
variable {prog:Program}{w:World}{A:Around}{E:Value->Shared->Prop}{s:Shared}{op:CmpOp}
theorem DY.type (h:DY s.heap xs v):s.TypeIs v "tuple":=by
 obtain⟨a,o,its,n,rfl,ho,hc,_⟩:=h;exact⟨o,ho,hc⟩
end
section
variable {X:Cx}{a b:Expr}{p pos:Pos}
@[simp] def jZ (f g:FE):FA:=λρ=>(f ρ).bind λx=>(g ρ).bind λy=>match x.1,y.1 with
 |.int i,.int j=>if -1000<=i/\i<=1000/\-1000<=j/\j<=1000 then some (bB i (j - i).toNat)else none
 |_,_=>none
theorem tU (hm:X.mg "range" = none)(h:JE X a f)(h':JE X b g)(hg:Gl X "range":=by rfl)(hs:starEach [a,b] X.env=[(false,eval a X.env),(false,eval b X.env)]:=by rfl)(lE:starEach [b] X.env=[(false,eval b X.env)]:=by rfl):PI X tg (.Call (.Name "range" p) [a,b] [] pos) (C6 X.K (jZ f g)):=by
 refine PI.to (sZ hg hm (ag h (ag h' ae lE) (by rw[hs,lE])) hs lE) λσ H R q=>?_;obtain⟨B,ρ,ds,sB,r,e',q⟩:=q;obtain⟨⟨x,xb⟩,ex,e'⟩:=oX e';obtain⟨⟨y,yb⟩,ey,e'⟩:=oX e';match x,y,ex,ey,e' with
 |.int i,.int j,ex,ey,e'=>
  dsimp only at e';split at e'
  ·rename_i hj;cases e'
   refine⟨B,ρ,[.int i,.int j],sB,r,by simp[aa,af,ex,ey],λvs H1 N1 x1 i1=>?_⟩;cases i1 with
   |cons i1 i2=>
    cases i1
    cases i2 with
    |cons i2 i3=>
     cases i2;cases i3
     exact⟨i,j,rfl,by omega,q _ H1 N1 x1 λ_=>oN i (j - i).toNat⟩
  ·cases e'
end
end DL
namespace DL
open PySem PySem.Spec PyProof.Rows L2
section
variable {X:Cx}
@[simp] def dY:List D->OB
 |[d,.tup [.ty n,.ty m]]=>if yF d=true then none else if n = "list"/\m = "tuple" then some (.bl (eM d == "list" || eM d == "tuple"),false)else none
 |_=>none
theorem tV (K:Frag)(d:D)(hd:∀n,d≠.ty n):PySem.W.kitAny K (.type (eM d)) [.type "list",.type "tuple"]=some (eM d == "list" || eM d == "tuple"):=by
 obtain⟨_,_,_,k4,k5⟩:=nB K d hd;unfold PySem.W.kitAny;rw[k4];cases eM d == "list" with
 |true=>rfl
 |false=>
  unfold PySem.W.kitAny;rw[k5];cases eM d == "tuple" with
  |true=>rfl
  |false=>rfl
theorem wn (I:Inv X ac σ H s)(i:Is X.K H v d)(hd:∀n,d≠.ty n)(rx:aI v u)(ht:IsTup s.heap tp its.toArray)(e:PySem.W.kitAny X.K (.type (eM d)) its=some b)(h:∀tk,Q (.bool b) { s with toks:=tk }):
  wpAny (model X.prog X.w) A (call (.builtin "isinstance") [u,.ref tp]) Q E s:=by
 obtain⟨⟨cls,dd,data,sl⟩,ho,hc,n,JJ⟩:=id ht;dsimp only at hc JJ;subst hc;subst JJ;cases i with
 |non=>cases (show u=Value.none from rx);exact PySem.W.kia_tup PySem.W.kitx_none I.kIn True.intro ho e (λz=>nomatch z) h
 |bl y=>cases (show u=Value.bool y from rx);exact PySem.W.kia_tup PySem.W.kitx_bool I.kIn True.intro ho e (λz=>nomatch z) h
 |int i=>obtain⟨t,q⟩:=(show ∃t,u=Value.int i t from rx);cases q;exact PySem.W.kia_tup PySem.W.kitx_int I.kIn True.intro ho e (λz=>nomatch z) h
 |str y=>obtain⟨t,q⟩:=(show ∃t,u=Value.str y t from rx);cases q;exact PySem.W.kia_tup PySem.W.kitx_str I.kIn True.intro ho e (λz=>nomatch z) h
 |ty n=>exact absurd rfl (hd n)
 |dk h1 _ _=>
  cases rx
  obtain⟨_,_,_,vs,_,o,es,ep,e1,e2,_⟩:=(show bD X.prog X.w H s.heap _ (.dK _ _)from I.hok _ _ h1);exact PySem.W.kia_tup PySem.W.kitx_dict I.kIn ⟨o,e1,e2.1⟩ ho e (λz=>nomatch z) h
 |dt h1 _ _=>
  cases rx
  obtain⟨_,_,xs,_,o,es,ep,e1,e2,_⟩:=(show bD X.prog X.w H s.heap _ (.dT _)from I.hok _ _ h1);exact PySem.W.kia_tup PySem.W.kitx_dict I.kIn ⟨o,e1,e2.1⟩ ho e (λz=>nomatch z) h
 |tup ht _=>
  cases rx
  obtain⟨its,_,⟨o,h1,h2,_⟩,_⟩:=I.tuple ht;exact PySem.W.kia_tup PySem.W.kitx_tuple I.kIn ⟨o,h1,h2⟩ ho e (λz=>nomatch z) h
 |lst hl _=>
  cases rx
  obtain⟨its,_,⟨o,n,h1,h2,_⟩,_⟩:=I.list hl;exact PySem.W.kia_tup PySem.W.kitx_list I.kIn ⟨o,h1,h2⟩ ho e (λz=>nomatch z) h
theorem m5:bN X (.builtin "isinstance") (yt X.K dY):=by
 intro ac s σ H xs us Q I rs q;obtain⟨B,ds,d,b,sB,i,e,q⟩:=q;cases i with
 |nil=>cases e
 |@cons _ dx _ _ i1 i=>
  cases i with
  |nil=>cases e
  |cons i2 i=>
   cases i with
   |cons _ _=>simp[dY]at e
   |nil=>
    cases i2<;>try (cases e;done)
    rename_i hs hl;cases hl with
    |nil=>cases e
    |cons j1 hl=>
     cases j1<;>try (cases e;done)
     cases hl with
     |nil=>cases e
     |cons j2 hl=>
      cases j2<;>try (cases e;done)
      cases hl with
      |cons _ _=>simp[dY]at e
      |nil=>
       obtain⟨u1,u2,rfl,r1,r2⟩:=uG rs;simp only[dY]at e;split at e
       ·cases e
       ·rename_i ht;have hd:∀n,dx≠.ty n:=λn z=>by subst z;exact ht rfl
        split at e
        ·rename_i hh;obtain⟨rfl,rfl⟩:=hh;cases e
         cases r2
         obtain⟨its,rv,p,_⟩:=I.tuple (bg sB hs);obtain⟨w1,w2,rfl,LC,LD⟩:=rv.two;cases LC
         cases LD
         exact wn I (i1.mono sB) hd r1 p (tV X.K dx hd) λtk=>⟨.bl _,H,I.tok tk,rfl,q.one sB (.bl _)⟩
        ·cases e
end
@[simp] noncomputable def Aq:D->Option iB
 |.int i=>some (.inl i)
 |.str x=>some (.inr x)
 |_=>none
noncomputable def wo {κ:Type}[DecidableEq κ]:List κ->List D->κ->Option D
 |k'::ks,d::ds,k=>if k'=k then some d else wo ks ds k
 |_,_,_=>none
section
variable {X:Cx}{o e i:Expr}{pos:Pos}
@[simp] def Mp:D->D->OB
 |.dk ks vs,y=>(Aq y).bind λk=>(wo ks vs k).map λd=>(d,false)
 |_,_=>none
@[simp] def Mq:D->D->OB
 |y,.dk ks vs=>(Aq y).map λk=>(.bl (wo ks vs k).isSome,false)
 |_,_=>none
end
section
variable {prog:Program}{w:World}{A:Around}{E:Value->Shared->Prop}{s:Shared}
abbrev js (h:Heap)(z TI TO T0:Addr)(f:Bool):Prop:=h.get? z=some { cls:=.type "zip",dict:=none,data:=.fields #[rawInt T0,.bool f,.bool false,.ref TI,.ref TO],slots:=#[] }
theorem wt (e:s.heap.get? a=some o)(h:Q (some o) s):wpAny (model prog w) A (loadIfAlive a) Q E s:=by
 intro Γ p hΓ;unfold loadIfAlive;simp only[Sem.wp];rw[e];exact h
theorem m6 {z TI TO T0:Addr}{f:Bool}{oT:Obj}{Q:Bool->Shared->Prop}(hz:js s.heap z TI TO T0 f)(hT:s.heap.get? T0=some oT)
  (q:∀h',js h' z TI TO T0 true->Heap.SameBut z s.heap h'->Q false { s with heap:=h' }):wpAny (model prog w) A (Builtin.SmallTypes.ownedTupleIsFree (.ref z)) Q E s:=by
 unfold Builtin.SmallTypes.ownedTupleIsFree;refine wX (wpAny_field hz rfl (x:=rawInt T0) rfl ?_);show wpAny _ _ (loadIfAlive ((T0:Int).toNat)>>=_) _ _ _;rw[Int.toNat_natCast];refine wX (wt hT ?_);simp only[Option.isNone_some,uV,if_false];refine wX (wpAny_field hz rfl (x:=.bool f) rfl ?_);cases f with
 |true=>
  rw[if_neg (show ¬((Value.bool true != Value.bool true)=true)from uX)];exact wY (q s.heap hz (.refl _ _))
 |false=>
  rw[if_pos (show((Value.bool false != Value.bool true)=true)from rfl)];refine wX (wpAny_setField_rec hz (by simp) λh' hz' s'=>wY (q h' hz' s'))
end
section
variable {prog:Program}{w:World}{A:Around}{E:Value->Shared->Prop}{s:Shared}
theorem tW {k1 k2:Bool}{z TI TO T0 i1 i2 l1 l2:Addr}{f:Bool}{oT:Obj}{j:Nat}{xs ys:Array Value}{x y:Value}{Q:Value->Shared->Prop}(D:ZApart z TI TO i1 i2)(m1:l1≠z/\l1≠TO/\l1≠i1)(m2:l2≠z/\l2≠TO/\l2≠i1/\l2≠i2)
  (hz:js s.heap z TI TO T0 f) (hT:s.heap.get? T0=some oT) (hI:IsPair s.heap TI (.ref i1) (.ref i2)) (t1:iD k1 s.heap i1 l1 j) (t2:iD k2 s.heap i2 l2 j) (q1:ir k1 s.heap l1 xs) (q2:ir k2 s.heap l2 ys) (hx:xs[j]? = some x) (hy:ys[j]? = some y)
  (q:∀h',js h' z TI TO T0 true->iD k1 h' i1 l1 (j+1)->iD k2 h' i2 l2 (j+1)->IsPair h' s.heap.objs.size x y ->
   (∀c o,c≠z->c≠i1->c≠i2->s.heap.get? c=some o->h'.get? c=some o)->Q (.ref s.heap.objs.size) { s with heap:=h' }):
  wpAny (model prog w) A (Builtin.«zip.__next__» ⟨[.ref z],[]⟩) (λg6 s'=>∃v,g6=.done (.ret v)/\Q v s') E s:=by
 show wpAny _ _ (field (.ref z) 2>>=_) _ _ s;refine wX (wpAny_field hz rfl (x:=.bool false) rfl ?_);show wpAny _ _ (field (.ref z) 3>>=_) _ _ s;refine wX (wpAny_field hz rfl (x:=.ref TI) rfl (wX (wpAny_seqItems hI rfl ?_)));show wpAny _ _ (Builtin.SmallTypes.ownedTupleIsFree (.ref z)>>=_) _ _ s;refine wX (m6 hz hT λg1 hz1 s1=>?_);simp only[uV,if_false];refine wX ?_;simp only[←Array.forIn_toList,List.forIn_cons,List.forIn_nil];refine wX (wX (wpAny_holding ?_));show wpAny _ _ (Builtin.SmallTypes.nextOf (.ref i1)>>=_) _ _ { s with heap:=g1 };refine wX (e7 (s:={ s with heap:=g1 }) (t1.upon λo e=>s1.extBut _ _ D.az e) (q1.upon λo e=>s1.extBut _ _ m1.1 e) hx λg2 t12 s2=>wY ?_);refine wY (wX (wX (wpAny_holding ?_)));show wpAny _ _ (Builtin.SmallTypes.nextOf (.ref i2)>>=_) _ _ { s with heap:=g2 };have Cu:∀ {c o},c≠z->c≠i1->s.heap.get? c=some o->g2.get? c=some o:=λc1 c3 e=>s2.extBut _ _ c3 (s1.extBut _ _ c1 e);refine wX (e7 (s:={ s with heap:=g2 }) (t2.upon λo e=>Cu D.bz D.ab.symm e) (q2.upon λo e=>Cu m2.1 m2.2.2.1 e) hy λg4 t24 s4=>wY ?_);refine wY (wY ?_);refine wX (wpAny_newTuple (hsz:=(by decide:2<=sizeLine)) ?_);have sz:g4.objs.size=s.heap.objs.size:=by rw[s4.1,s2.1,s1.1]
 have LF:∀c o,c≠z->c≠i1->c≠i2->s.heap.get? c=some o->g4.get? c=some o:=λc o c1 c3 c4 e=>s4.extBut _ _ c4 (Cu c1 c3 e);refine wY ⟨_,rfl,?_⟩;show Q (.ref g4.objs.size) { s with heap:=g4.push { cls:=.type "tuple",data:=.seq #[x,y] } };have hp:IsPair (g4.push { cls:=.type "tuple",data:=.seq #[x,y] }) g4.objs.size x y:=vY _ rfl;rw[sz]at hp ⊢;exact q _ (vZ _ (s4.extBut _ _ D.bz.symm (s2.extBut _ _ D.az.symm hz1))) (t12.upon λo e=>vZ _ (s4.extBut _ _ D.ab e)) (t24.upon λo e=>vZ _ e) hp λc o c1 c3 c4 e=>vZ _ (LF c o c1 c3 c4 e)
theorem wu {k1 k2:Bool}{z TI TO T0 i1 i2 l1 l2:Addr}{f:Bool}{oT:Obj}{j:Nat}{xs ys:Array Value}{Q:PySem.Fin->Shared->Prop}(hA:A.handled=none)(D:ZApart z TI TO i1 i2)(m1:l1≠z/\l1≠TO/\l1≠i1)(m2:l2≠z/\l2≠TO/\l2≠i1/\l2≠i2)
  (hz:js s.heap z TI TO T0 f) (hT:s.heap.get? T0=some oT) (hI:IsPair s.heap TI (.ref i1) (.ref i2)) (t1:iD k1 s.heap i1 l1 j) (t2:iD k2 s.heap i2 l2 j) (q1:ir k1 s.heap l1 xs) (q2:ir k2 s.heap l2 ys) (he:xs[j]? = none∨ys[j]? = none)
  (q:∀h' x,(∀c o,c≠z->c≠i1->c≠i2->s.heap.get? c=some o->h'.get? c=some o)->(∃o,h'.get? x=some o/\o.cls=.type "StopIteration")->E (.ref x) { s with heap:=h' }):
  wpAny (model prog w) A (Builtin.«zip.__next__» ⟨[.ref z],[]⟩) Q E s:=by
 show wpAny _ _ (field (.ref z) 2>>=_) _ _ s;refine wX (wpAny_field hz rfl (x:=.bool false) rfl ?_);show wpAny _ _ (field (.ref z) 3>>=_) _ _ s;refine wX (wpAny_field hz rfl (x:=.ref TI) rfl (wX (wpAny_seqItems hI rfl ?_)));show wpAny _ _ (Builtin.SmallTypes.ownedTupleIsFree (.ref z)>>=_) _ _ s;refine wX (m6 hz hT λg1 hz1 s1=>?_);simp only[uV,if_false];refine wX ?_;simp only[←Array.forIn_toList,List.forIn_cons,List.forIn_nil];refine wX (wX (wpAny_holding ?_));show wpAny _ _ (Builtin.SmallTypes.nextOf (.ref i1)>>=_) _ _ { s with heap:=g1 };cases hx:xs[j]? with
 |none=>
  exact wX (iO (s:={ s with heap:=g1 }) hA (t1.upon λo e=>s1.extBut _ _ D.az e) (q1.upon λo e=>s1.extBut _ _ m1.1 e) hx λg2 x s2 hX=>q g2 x (λc o c1 c3 _ e=>s2 _ _ c3 (s1.extBut _ _ c1 e)) hX)
 |some v=>
  have hy:ys[j]? = none:=by
   rcases he with h|h
   ·rw[hx]at h;cases h
   ·exact h
  refine wX (e7 (s:={ s with heap:=g1 }) (t1.upon λo e=>s1.extBut _ _ D.az e) (q1.upon λo e=>s1.extBut _ _ m1.1 e) hx λg2 t12 s2=>wY ?_);refine wY (wX (wX (wpAny_holding ?_)));show wpAny _ _ (Builtin.SmallTypes.nextOf (.ref i2)>>=_) _ _ { s with heap:=g2 };have Cu:∀ {c o},c≠z->c≠i1->s.heap.get? c=some o->g2.get? c=some o:=λc1 c3 e=>s2.extBut _ _ c3 (s1.extBut _ _ c1 e);exact wX (iO (s:={ s with heap:=g2 }) hA (t2.upon λo e=>Cu D.bz D.ab.symm e) (q2.upon λo e=>Cu m2.1 m2.2.2.1 e) hy λg4 x s4 hX=>q g4 x (λc o c1 c3 c4 e=>s4 _ _ c4 (Cu c1 c3 e)) hX)
end
structure ZA (k1 k2:Bool)(z TI TO i1 i2 l1 l2:Addr):Prop where
 D:ZApart z TI TO i1 i2
 m1:l1≠z/\l1≠TO/\l1≠i1
 m2:l2≠z/\l2≠TO/\l2≠i1/\l2≠i2
def wv (k1 k2:Bool)(z TI TO i1 i2 l1 l2 S:Addr)(i:Nat)(h:Heap):Prop :=
 IsPair h TI (.ref i1) (.ref i2)/\iD k1 h i1 l1 i/\iD k2 h i2 l2 i/\((IsZip h z TI TO .none/\∃a b,IsPair h TO a b)∨∃T0 f oT oO,js h z TI TO T0 f/\h.get? T0=some oT/\T0∉[z,TI,TO,i1,i2]/\T0≠S/\h.get? TO=some oO)
theorem wv.keep {k1 k2:Bool}{z TI TO i1 i2 l1 l2 S:Addr}{i:Nat}{h h':Heap}(st:wv k1 k2 z TI TO i1 i2 l1 l2 S i h)(hS:S∉[z,TI,TO,i1,i2])(k:∀b o,b≠S->h.get? b=some o->h'.get? b=some o):wv k1 k2 z TI TO i1 i2 l1 l2 S i h':=by
 obtain⟨a1,a2,a3,a4⟩:=st;have n:∀ {b},b∈[z,TI,TO,i1,i2]->b≠S:=λhb e=>hS (e ▸ hb);refine⟨k _ _ (n (by simp)) a1,a2.upon λo e=>k _ o (n (by simp)) e,a3.upon λo e=>k _ o (n (by simp)) e,?_⟩;rcases a4 with⟨b1,a,b,b2⟩|⟨T0,f,oT,oO,b1,b2,b3,b4,b5⟩
 ·exact .inl ⟨k _ _ (n (by simp)) b1,a,b,k _ _ (n (by simp)) b2⟩
 ·exact .inr ⟨T0,f,oT,oO,k _ _ (n (by simp)) b1,k _ _ b4 b2,b3,b4,k _ _ (n (by simp)) b5⟩
section
variable {prog:Program}{w:World}{A:Around}{E:Value->Shared->Prop}{s:Shared}{k1 k2:Bool}{z TI TO i1 i2 l1 l2 S:Addr}{j:Nat}{xs ys:Array Value}
theorem wv.ty (st:wv k1 k2 z TI TO i1 i2 l1 l2 S j h):∃o,h.get? z=some o/\o.cls=.type "zip":=by
 obtain⟨_,_,_,a4⟩:=st;rcases a4 with⟨b1,_⟩|⟨T0,f,oT,oO,b1,_⟩
 ·exact⟨_,b1,rfl⟩
 ·exact⟨_,b1,rfl⟩
theorem ww (Z:ZA k1 k2 z TI TO i1 i2 l1 l2)(hS:S<s.heap.objs.size)(st:wv k1 k2 z TI TO i1 i2 l1 l2 S j s.heap)(q1:ir k1 s.heap l1 xs)(q2:ir k2 s.heap l2 ys)(hx:xs[j]? = some x)(hy:ys[j]? = some y)
  (q:∀h',wv k1 k2 z TI TO i1 i2 l1 l2 S (j+1) h'->IsPair h' s.heap.objs.size x y->(∀c o,c∉[z,TI,TO,i1,i2]->s.heap.get? c=some o->h'.get? c=some o)->Q (some (.ref s.heap.objs.size)) { s with heap:=h' }):
  wpAny (model prog w) A (pyNext (.ref z)) Q E s:=by
 have hT:s.TypeIs (.ref z) "zip":=st.ty;obtain⟨hI,t1,t2,a4⟩:=st;have lt:∀ {c o},s.heap.get? c=some o->s.heap.objs.size≠c:=λe=>Nat.ne_of_gt (vX e);obtain⟨o1,e1,_⟩:=t1.ob;obtain⟨o2,e2,_⟩:=t2.ob;unfold pyNext;rcases a4 with⟨hz,a,b,hO⟩|⟨T0,f,oT,oO,hz,h0,n0,nS,hO⟩
 ·refine wX (wpAny_attempt (wpAny_callSpecial?_slot (name:=Str.ofString "__next__") hT PySem.F.slot_zip_next (wpAny_call_entry PySem.F.slot_zip_next hT PySem.F.entry_zip_next (oV Z.D Z.m1 Z.m2 hz hI hO t1 t2 q1 q2 hx hy λh' b1 b2 b3 b4 b5 b6 bk=>wY ?_) (PySem.F.args_zip_next_1 _))));refine q h' ⟨bk _ _ Z.D.tz Z.D.to Z.D.ta Z.D.tb hI,b3,b4,.inr ⟨_,false,_,_,b1,b5,?_,Nat.ne_of_gt hS,b2⟩⟩ b5 λc o hc e=>bk c o (λz=>hc (by simp[z])) (λz=>hc (by simp[z])) (λz=>hc (by simp[z])) (λz=>hc (by simp[z])) e;simp only[List.mem_cons,List.not_mem_nil,or_false,not_or];exact⟨lt hz,lt hI,lt hO,lt e1,lt e2⟩
 ·refine wX (wpAny_attempt (wpAny_callSpecial?_slot (name:=Str.ofString "__next__") hT PySem.F.slot_zip_next (wpAny_call_entry PySem.F.slot_zip_next hT PySem.F.entry_zip_next (tW Z.D Z.m1 Z.m2 hz h0 hI t1 t2 q1 q2 hx hy λh' b1 b3 b4 b5 bk=>wY ?_) (PySem.F.args_zip_next_1 _))));exact q h' ⟨bk _ _ Z.D.tz Z.D.ta Z.D.tb hI,b3,b4,.inr ⟨T0,true,oT,oO,b1,bk _ _ (λz=>n0 (by simp[z])) (λz=>n0 (by simp[z])) (λz=>n0 (by simp[z])) h0,n0,nS,bk _ _ Z.D.oz Z.D.oa Z.D.ob hO⟩⟩ b5 λc o hc e=>bk c o (λz=>hc (by simp[z])) (λz=>hc (by simp[z])) (λz=>hc (by simp[z])) e
theorem wx (hA:A.handled=none)(Z:ZA k1 k2 z TI TO i1 i2 l1 l2)(st:wv k1 k2 z TI TO i1 i2 l1 l2 S j s.heap)(q1:ir k1 s.heap l1 xs)(q2:ir k2 s.heap l2 ys)(he:xs[j]? = none∨ys[j]? = none)
  (q:∀h',(∀c o,c∉[z,TI,TO,i1,i2]->s.heap.get? c=some o->h'.get? c=some o)->Q none { s with heap:=h' }):wpAny (model prog w) A (pyNext (.ref z)) Q E s:=by
 have hT:s.TypeIs (.ref z) "zip":=st.ty;obtain⟨hI,t1,t2,a4⟩:=st;unfold pyNext;rcases a4 with⟨hz,a,b,hO⟩|⟨T0,f,oT,oO,hz,h0,n0,nS,hO⟩
 ·refine wX (wpAny_attempt (wpAny_callSpecial?_slot (name:=Str.ofString "__next__") hT PySem.F.slot_zip_next (wpAny_call_entry PySem.F.slot_zip_next hT PySem.F.entry_zip_next (sk hA Z.D Z.m1 Z.m2 hz hI hO t1 t2 q1 q2 he λh' x hk hX=>?_) (PySem.F.args_zip_next_1 _))));obtain⟨o,eo,co⟩:=hX;exact wX (wpAny_isInstance (T:="StopIteration") (b:=true) ⟨o,eo,co⟩ isSubtype_stop (wY (q h' λc o hc e=>hk c o (λz=>hc (by simp[z])) (λz=>hc (by simp[z])) (λz=>hc (by simp[z])) (λz=>hc (by simp[z])) e)))
 ·refine wX (wpAny_attempt (wpAny_callSpecial?_slot (name:=Str.ofString "__next__") hT PySem.F.slot_zip_next (wpAny_call_entry PySem.F.slot_zip_next hT PySem.F.entry_zip_next (wu hA Z.D Z.m1 Z.m2 hz h0 hI t1 t2 q1 q2 he λh' x hk hX=>?_) (PySem.F.args_zip_next_1 _))));obtain⟨o,eo,co⟩:=hX;exact wX (wpAny_isInstance (T:="StopIteration") (b:=true) ⟨o,eo,co⟩ isSubtype_stop (wY (q h' λc o hc e=>hk c o (λz=>hc (by simp[z])) (λz=>hc (by simp[z])) (λz=>hc (by simp[z])) e)))
end
theorem wy (h:a≠b):upd (upd H a o) b u=upd (upd H b u) a o:=by
 funext c;unfold upd;by_cases h1:c=b
 ·by_cases h2:c=a
  ·exact absurd (h2.symm.trans h1) h
  ·rw[if_pos h1,if_neg h2,if_pos h1]
 ·rw[if_neg h1];by_cases h2:c=a
  ·rw[if_pos h2,if_pos h2]
  ·rw[if_neg h2,if_neg h2,if_neg h1]
theorem pw (h:H a=none):aO H (upd H a o):=λb u e=>by rw[au (aP e h)];exact e
theorem tX (h:(fB ds es)[i]? = some d):(fB ds es).take (i+1)=(fB ds es).take i++[d]:=by
 rw[List.take_add_one,h];rfl
theorem qR:typeLookup (.type "zip") "__len__" = pure none:=by rw[typeLookup_type,builtinLookup_eq_fast];kernel_rfl
theorem px:typeLookup (.type "zip") "__length_hint__" = pure none:=by rw[typeLookup_type,builtinLookup_eq_fast];kernel_rfl
section
variable {X:Cx}{ac:List (Addr×Obj)}{σ:St}{B H0:Hp}{A:Around}{R:Result->Shared->Prop}{k1 k2:Bool}{z TI TO i1 i2 l1 l2 S:Addr}{us ws:List V}{ds es:List D}
theorem tY (hA:A.handled=none)(Z:ZA k1 k2 z TI TO i1 i2 l1 l2)(hS:S∉[z,TI,TO,i1,i2])(h1:j7 k1 X.K B l1 us)(j1:IsL X.K B us ds)(h2:j7 k2 X.K B l2 ws)(j2:IsL X.K B ws es)
  (hR:∀Hc N vs s',Inv X ac σ (upd Hc S (.lst vs)) s'->Hc S=none->Ext B N H0 Hc->IsL X.K N vs (fB ds es)->R (.ok (.ret .none)) s'):
  ∀(k i:Nat)(s:Shared)(Hc N:Hp)(vs:List V),(fB ds es).length - i=k->i<=(fB ds es).length->Inv X ac σ (upd Hc S (.lst vs)) s->Hc S=none->Ext B N H0 Hc->(∀b∈[z,TI,TO,i1,i2],iJ X ac (upd Hc S (.lst vs)) b) ->
   wv k1 k2 z TI TO i1 i2 l1 l2 S i s.heap->IsL X.K N vs ((fB ds es).take i) ->
   codeAny (model X.prog X.w) A (.builtin "list.extend.loop" ⟨[.ref S,.ref z,.none],[]⟩) R s:=by
 have n1:=j1.length;have n2:=j2.length;have nz:(fB ds es).length=min ds.length es.length:=by unfold fB;rw[List.length_zipWith]
 intro k;induction k with
 |zero=>
  intro i s Hc N vs hk hi I hc xt fp st il;have zJ:i=(fB ds es).length:=by omega
  have sm:aO B (upd Hc S (.lst vs)):=(xt.bn.trans xt.nh).trans (pw hc);obtain⟨its,r1,p1,z1⟩:=(h1.same sm).vals I;obtain⟨lT,r2,p2,z2⟩:=(h2.same sm).vals I;have e1:=r1.length;have e2:=r2.length;refine codeAny_builtin PySem.F.entry_extend_loop ?_;rw[Around.under_plainId PySem.F.plain_extend_loop _];show wpAny _ A.in1 (pyNext (.ref z)>>=_) _ _ s;refine wX (wx (A:=A.in1) hA Z st p1 p2 ?_ λh' xB=>?_)
  ·by_cases q:ds.length<=es.length
   ·left;simp;omega
   ·right;simp;omega
  ·refine wY (hR Hc N vs _ (nG (t':=s.toks) I fp xB) hc xt ?_);rw[zJ,List.take_length]at il;exact il
 |succ k ih=>
  intro i s Hc N vs hk hi I hc xt fp st il;have fH:i<(fB ds es).length:=by omega
  have sm:aO B (upd Hc S (.lst vs)):=(xt.bn.trans xt.nh).trans (pw hc);obtain⟨its,r1,p1,z1⟩:=(h1.same sm).vals I;obtain⟨lT,r2,p2,z2⟩:=(h2.same sm).vals I;have d1:i<ds.length:=by omega
  have d2:i<es.length:=by omega
  obtain⟨x,hx,ix⟩:=j1.get (vU d1);obtain⟨y,hy,iy⟩:=j2.get (vU d2);obtain⟨u,hu,ru⟩:=r1.get hx;obtain⟨v,hv,rv⟩:=r2.get hy;have el:(fB ds es)[i]? = some (.tup [ds[i],es[i]]):=by
   unfold fB;rw[List.getElem?_zipWith,vU d1,vU d2]
  obtain⟨zl,jf,c,LG,Mz,eS⟩:=I.lstM aw;have JK:S<s.heap.objs.size:=vX eS;refine codeAny_builtin PySem.F.entry_extend_loop ?_;rw[Around.under_plainId PySem.F.plain_extend_loop _];show wpAny _ A.in1 (pyNext (.ref z)>>=_) _ _ s;refine wX (ww (A:=A.in1) Z JK st p1 p2 (by simpa using hu) (by simpa using hv) λh' oi hp xB=>?_);have fr:upd Hc S (.lst vs) s.heap.objs.size=none:=I.hok.fresh (vT _);have nS:s.heap.objs.size≠S:=Nat.ne_of_gt JK;have JL:Hc s.heap.objs.size=none:=by rw[au nS]at fr;exact fr
  have new:bD X.prog X.w (upd (upd Hc S (.lst vs)) s.heap.objs.size (.tup [x,y])) h' s.heap.objs.size (.tup [x,y]):=⟨by show 2<=sizeLine;decide,[u,v],.cons ru (.cons rv .nil),⟨_,hp,rfl,_,rfl⟩⟩;have I1:Inv X ac σ (upd (upd Hc S (.lst vs)) s.heap.objs.size (.tup [x,y])) { s with heap:=h' }:=Al (s:=s) (t':=s.toks) I fp xB (vT _) new;rw[wy nS.symm]at I1;have JM:h'.get? S=some { cls:=.type "list",data:=.seq jf.toArray c }:=xB S _ hS eS;have xF:Ext B (upd N s.heap.objs.size (.tup [x,y])) H0 (upd Hc s.heap.objs.size (.tup [x,y])):=xt.trans (Ext.laid xt.nh JL);have vl:vs.length=i:=by rw[il.length,List.length_take];omega
  have zs:=zl;show wpAny _ A.in1 (updateSeq S (·.push (Value.ref s.heap.objs.size))>>=_) _ _ _;refine wX ?_;have lz:(vs++[V.ref s.heap.objs.size]).length<=sizeLine:=by
   rw[uZ,vl];have a1:=z1;show i+1<=sizeLine;omega
  have I2:=I1.lset (t':=s.toks) (ys:=vs++[.ref s.heap.objs.size]) (its':=jf++[.ref s.heap.objs.size]) (f:=(·.push (Value.ref s.heap.objs.size))) aw JM (by simp) (LG.append (.cons (show aI (.ref _) (.ref _)from rfl) .nil)) lz;rw[jV]at I2;refine wpAny_updateSeq JM rfl (wY ⟨plainId_quiet PySem.F.plain_extend_loop _,ih (i+1) _ _ _ (vs++[.ref s.heap.objs.size]) (by omega) fH I2 (by rw[au nS.symm];exact hc) xF (λb hb=>?_) (oi.keep hS λb o hb e=>(Heap.get?_update_other _ _ (Ne.symm hb)).trans e) ?_⟩) (by simp;omega) (by simp;omega)
  ·obtain⟨f0,f1,f2,f3,f4,f5⟩:=fp b hb;refine⟨?_,f1,f2,f3,f4,f5⟩;have nb:b≠S:=λe=>hS (e ▸ hb);rw[au nb]at f0 ⊢;have nT:b≠s.heap.objs.size:=by
    obtain⟨hI,t1,t2,a4⟩:=st;obtain⟨o1,e1,_⟩:=t1.ob;obtain⟨o2,e2,_⟩:=t2.ob;simp only[List.mem_cons,List.not_mem_nil,or_false]at hb;have lt:∀ {c o},s.heap.get? c=some o->c≠s.heap.objs.size:=λe=>vS (vX e);have hO:∃o,s.heap.get? TO=some o/\∃o,s.heap.get? z=some o:=by
     rcases a4 with⟨hz,a,b,hO⟩|⟨T0,f,oT,oO,hz,h0,n0,nS,hO⟩
     ·exact⟨_,hO,_,hz⟩
     ·exact⟨_,hO,_,hz⟩
    obtain⟨o3,e3,o4,e4⟩:=hO;rcases hb with rfl|rfl|rfl|rfl|rfl
    ·exact lt e4
    ·exact lt hI
    ·exact lt e3
    ·exact lt e1
    ·exact lt e2
   rw[au nT];exact f0
  ·rw[tX el];exact(il.mono (Ext.laid xt.nh JL).bn).append (.cons (.tup (gc.of aw) (.cons (ix.mono xF.bn) (.cons (iy.mono xF.bn) .nil))) .nil)
end
section
variable {X:Cx}{ac:List (Addr×Obj)}{σ:St}{B H:Hp}{s:Shared}{k1 k2:Bool}{z TI TO i1 i2 l1 l2:Addr}{us ws:List V}{ds es:List D}
theorem lP (hA:X.A.handled=none)(I:Inv X ac σ H s)(Z:ZA k1 k2 z TI TO i1 i2 l1 l2)(fp:∀b∈[z,TI,TO,i1,i2],iJ X ac H b)
  (hI:IsPair s.heap TI (.ref i1) (.ref i2)) (t1:iD k1 s.heap i1 l1 0) (t2:iD k2 s.heap i2 l2 0) (hz:IsZip s.heap z TI TO .none) (hO:IsPair s.heap TO a b)
  (sB:aO B H) (h1:j7 k1 X.K B l1 us) (j1:IsL X.K B us ds) (h2:j7 k2 X.K B l2 ws) (j2:IsL X.K B ws es)
  (q:∀(S:Addr)(Hc N:Hp)(vs:List V),Hc S=none->Ext B N H Hc->IsL X.K N vs (fB ds es)->Q (.ref S) (upd Hc S (.lst vs))):
  wq X (call (.type "list") [.ref z]) (EP X ac σ Q) X.xe s:=by
 have lt:∀ {c o},s.heap.get? c=some o->s.heap.objs.size≠c:=λe=>Nat.ne_of_gt (vX e);have sV:s.heap.objs.size∉[z,TI,TO,i1,i2]:=by
  obtain⟨o1,e1,_⟩:=t1.ob;obtain⟨o2,e2,_⟩:=t2.ob;simp only[List.mem_cons,List.not_mem_nil,or_false,not_or];exact⟨lt hz,lt hI,lt hO,lt e1,lt e2⟩
 have nz:s.heap.objs.size≠z:=lt hz;have LH:wv k1 k2 z TI TO i1 i2 l1 l2 s.heap.objs.size 0 s.heap:=⟨hI,t1,t2,.inl ⟨hz,a,b,hO⟩⟩;have hc:H s.heap.objs.size=none:=I.fresh;refine callType_codes (Q₁:=λobj s₁=>obj=.ref s.heap.objs.size/\s₁={ s with heap:=s.heap.push { cls:=.type "list",data:=.seq #[] } }) PySem.F.called_list (PySem.F.typeCall_list_1 _) PySem.F.entry_list_init
  (code_list_new _ ⟨rfl,rfl⟩) λobj s₁ h₁=>?_
 obtain⟨rfl,rfl⟩:=h₁;have hS:(s.heap.push { cls:=.type "list",data:=.seq #[] }).get? s.heap.objs.size=some { cls:=.type "list",data:=.seq ([]:List Value).toArray }:=vY _ rfl;have I1:Inv X ac σ (upd H s.heap.objs.size (.lst [])) { s with heap:=s.heap.push { cls:=.type "list",data:=.seq #[] } }:=I.lnew (t':=s.toks) (its:=[]) .nil (uN _);have LI:wv k1 k2 z TI TO i1 i2 l1 l2 s.heap.objs.size 0 (s.heap.push { cls:=.type "list",data:=.seq #[] }):=LH.keep sV λb o _ e=>vZ _ e;refine⟨⟨_,hS,rfl⟩,PySem.F.args_list_init_2 _ _,?_⟩;show wpAny _ _ (do let old ←Builtin.List.listItems (.ref s.heap.objs.size);Builtin.List.listUpdate (.ref s.heap.objs.size) (λ_=>#[]);letGo old.toList.reverse;Builtin.List.listExtendWith (.ref s.heap.objs.size) (.ref z) .none) _ _ _;refine wX ?_;unfold Builtin.List.listItems;refine wX (wpAny_seqItems hS rfl (wY ?_));show wpAny _ _ (updateSeq s.heap.objs.size (λ_=>#[])>>=λ_=>letGo (#[]:Array Value).toList.reverse>>=λ_=>Builtin.List.listExtendWith (.ref s.heap.objs.size) (.ref z) .none) _ _ _;refine wX (wpAny_updateSeq hS rfl ?_);have I2:=I1.lset (t':=s.toks) (ys:=[]) (its':=[]) (f:=λ_=>#[]) aw hS rfl .nil (uN _);have rj:=LI.keep (h':=(s.heap.push { cls:=.type "list",data:=.seq #[] }).update s.heap.objs.size (Obj.mapSeq λ_=>(#[]:Array Value))) sV λb o hb e=>(Heap.get?_update_other _ _ (Ne.symm hb)).trans e;rw[jV]at I2;generalize hg2:(s.heap.push { cls:=.type "list",data:=.seq #[] }).update s.heap.objs.size (Obj.mapSeq λ_=>(#[]:Array Value))=g2 at I2 rj ⊢;obtain⟨_,uv,c2,v2,_,AA⟩:=I2.lstM aw;have e2:=v2.zero;subst e2;refine wX (wpAny_letGo ?_);unfold Builtin.List.listExtendWith;refine wX (wpAny_typeOf (T:="zip") rj.ty ?_);have LJ:Builtin.List.listSameRef (.ref s.heap.objs.size) (.ref z)=false:=by simp[Builtin.List.listSameRef,nz]
 have lE:(Value.type "zip" == Value.type "list")=false:=by decide
 have Gi:(Value.type "zip" == Value.type "tuple")=false:=by decide
 simp only[LJ,lE,Gi,Bool.or_false,uV,if_false];have Gd:IsZip g2 z TI TO .none:=by
  rw[←hg2];exact(Heap.get?_update_other _ _ nz).trans (vZ _ hz)
 refine wX (wpAny_pyIter_zip Gd ?_);refine wX (wpAny_holding ?_);unfold Builtin.List.listLengthHint;refine wX (wpAny_specialOf (T:="zip") rj.ty qR ?_);show wpAny _ _ (specialOf (Value.ref z) (Str.ofString "__length_hint__")>>=_) _ _ _;refine wX (wpAny_specialOf (T:="zip") rj.ty px ?_);refine wY ?_;show wpAny _ _ (rule "list.extend.makes-room" >>= λ_=>Builtin.List.listTouch (.ref s.heap.objs.size)>>=λ_=>
  again (.builtin "list.extend.loop" ⟨[.ref s.heap.objs.size,.ref z,.none],[]⟩)) _ _ _
 refine wX (wpAny_rule ?_);refine wX ?_;show wpAny _ _ (updateSeq s.heap.objs.size (·.push .none)>>=λ_=>updateSeq s.heap.objs.size (·.pop)) _ _ _;refine wX (wpAny_updateSeq AA rfl ?_);have I3:=I2.lset (t':=s.toks) (ys:=[.non]) (its':=[.none]) (f:=(·.push .none)) aw AA rfl (.cons (show aI .non .none from rfl) .nil) (by show 1<=sizeLine;decide);have E7:=rj.keep (h':=g2.update s.heap.objs.size (Obj.mapSeq (·.push .none))) sV λb o hb e=>(Heap.get?_update_other _ _ (Ne.symm hb)).trans e;rw[jV]at I3;generalize hg3:g2.update s.heap.objs.size (Obj.mapSeq (·.push .none))=g3 at I3 E7 ⊢;obtain⟨_,LK,c3,v3,_,Gf⟩:=I3.lstM aw;obtain⟨n3,rfl,r3⟩:=v3.one;cases r3
 refine wpAny_updateSeq (hz:=by simp<;>decide) Gf rfl ?_
 have I4:=I3.lset (t':=s.toks) (ys:=[]) (its':=[]) (f:=(·.pop)) aw Gf rfl .nil (uN _);have LL:=E7.keep (h':=g3.update s.heap.objs.size (Obj.mapSeq (·.pop))) sV λb o hb e=>(Heap.get?_update_other _ _ (Ne.symm hb)).trans e;rw[jV]at I4;refine wY ⟨plainId_quiet PySem.F.plain_extend_loop _,tY (A:=X.A.in1) (B:=B) (H0:=H) hA Z sV h1 j1 h2 j2 (λHc N vs s' I' FN xt il=>?_) _ 0 _ H B [] rfl (uN _) I4 hc (Ext.refl sB) (λb hb=>?_) LL .nil⟩
 ·exact⟨rfl,.ref s.heap.objs.size,_,I',rfl,q _ Hc N vs FN xt il⟩
 ·obtain⟨f0,f1⟩:=fp b hb;refine⟨?_,f1⟩;have nb:b≠s.heap.objs.size:=λe=>sV (e ▸ hb);rw[au nb];exact f0
end
@[simp] def IH (fa fb:FE):FE:=λρ=>(vK fa fb ρ).map λds=>(.lst ds,true)
section
variable {X:Cx}{a b:Expr}{pos p pos2 p2:Pos}
theorem qS (HV:X.calm=true)(hl:X.mg "list" = none)(hm:X.mg "zip" = none)(ha:JE X a fa)(hb:JE X b fb)(LM:Gl X "list":=by rfl)(hg:Gl X "zip":=by rfl)
  (hs:starEach [a,b] X.env=[(false,eval a X.env),(false,eval b X.env)]:=by rfl) (lE:starEach [b] X.env=[(false,eval b X.env)]:=by rfl)
  (Gi:starEach [.Call (.Name "zip" p2) [a,b] [] pos2] X.env=[(false,eval (.Call (.Name "zip" p2) [a,b] [] pos2) X.env)]:=by rfl):
  JE X (.Call (.Name "list" p) [.Call (.Name "zip" p2) [a,b] [] pos2] [] pos) (IH fa fb):=by
 intro ac s σ H Q I q;obtain⟨B,ρ,d,bb,sB,r,ee,g6⟩:=q;obtain⟨zs,JN,e2⟩:=oY ee;cases e2
 clear ee;have ee:=JN;clear JN;obtain⟨x1,ex,ee⟩:=oX ee;obtain⟨y1,ey,ee⟩:=oX ee;obtain⟨xs,HH,ee⟩:=oX ee;obtain⟨ys,HI,ee⟩:=oY ee;subst ee;refine wpAny_Call_Name_kw (g9 I LM hl ip ?_ (by decide) (by decide));refine PyProof.Rows.callWith_type1 ?_ (by rw[Gi];rfl) rfl;rw[Gi];show wpAny _ _ (spliced ((false,eval (.Call (.Name "zip" p2) [a,b] [] pos2) X.env)::backTo pos [])) _ _ s;refine Calls.spliced_cons ?_;refine wpAny_Call_Name_kw (g9 I hg hm Am ?_ (by decide) (by decide));refine PyProof.Rows.callWith_type1 (bY (ag ha (ag hb ae lE) (by rw[hs,lE]) pos2 ac s σ H (λvs H1=>∃N1,Ext B N1 H H1/\IsL X.K N1 vs [x1.1,y1.1]) I ⟨B,ρ,[x1.1,y1.1],sB,r,by simp[aa,af,ex,ey],λvs H1 N1 xt i1=>⟨N1,xt,i1⟩⟩) λus s1 ⟨vs,H1,I1,r1,N1,xt,il⟩=>?_) (by rw[hs,lE]) (by rw[lE];rfl);cases il with
 |cons j1 j2=>
  cases j2 with
  |cons j2 j3=>
   cases j3
   obtain⟨k1,l1,M0,rfl,h1,m1⟩:=oW j1 HH;obtain⟨k2,l2,M1,rfl,h2,m2⟩:=oW j2 HI;obtain⟨u1,u2,rfl,HF,HG⟩:=r1.two;cases HF
   cases HG
   obtain⟨its,v1,p1,z1⟩:=(h1.same xt.nh).vals I1;obtain⟨lT,v2,p2,z2⟩:=(h2.same xt.nh).vals I1;have zf:=p1.lt;have zF:=p2.lt;refine sj p1 p2 λh' c1 c2 c3 c4 c5 ck=>?_;have D:ZApart (s1.heap.objs.size+4) (s1.heap.objs.size+2) (s1.heap.objs.size+3) s1.heap.objs.size (s1.heap.objs.size+1):=by
    constructor<;>(intro z;exact absurd z (by first|exact vS (Nat.add_lt_add_left (by decide) _)|exact Nat.ne_of_gt (Nat.add_lt_add_left (by decide) _)|exact vS (Nat.lt_add_of_pos_right (by decide))|exact Nat.ne_of_gt (Nat.lt_add_of_pos_right (by decide))))
   have nf:∀ {l:Addr}(n:Nat),l<s1.heap.objs.size->l≠s1.heap.objs.size+n:=λn hl=>vS (vQ hl (Nat.le_add_right _ n));refine Calls.spliced_nil ?_;refine lP (s:={ s1 with heap:=h' }) (k1:=k1) (k2:=k2) (B:=N1) (H:=H1) (I1.ok.hd HV) (I1.kept (t':=s1.toks) ck) ⟨D,⟨nf 4 zf,nf 3 zf,nf 0 zf⟩,⟨nf 4 zF,nf 3 zF,nf 0 zF,nf 1 zF⟩⟩ (λb hb=>?_) c2 c4 c5 c1 c3 xt.nh h1 m1 h2 m2 λS Hc N vs hS xF il2=>?_
   ·have zG:s1.heap.objs.size<=b:=by
     simp at hb;rcases hb with rfl|rfl|rfl|rfl|rfl
     ·exact Nat.le_add_right _ 4
     ·exact Nat.le_add_right _ 2
     ·exact Nat.le_add_right _ 3
     ·exact vT _
     ·exact Nat.le_add_right _ 1
    exact I1.fpOk zG (I1.hok.fresh zG)
   ·have x3:=(xt.trans xF).trans (Ext.laid (o:=.lst vs) xF.nh hS);have Ff:=il2.mono (Ext.laid (o:=.lst vs) xF.nh hS).bn;exact g6 _ _ _ x3 (.lst (gb.of aw) Ff) λ_=>⟨_,_,_,rfl,rfl,(xt.trans xF).hh.free hS,aw,Ff⟩
end
@[simp] noncomputable def BF:D->D->OB
 |.lst ds,.int k=>if 0<=k/\ds.length*k.toNat<=1000/\k<=1000 then some (.lst (List.replicate k.toNat ds).flatten,true)else none
 |_,_=>none
@[simp] def yP (fa fb:FE):FE:=λρ=>(fa ρ).bind λx=>if x.2=true then (fb ρ).bind λy=>BF x.1 y.1 else none
theorem IsL.rep {K:Frag}{H:Hp}{vs:List V}{ds:List D}(h:IsL K H vs ds):∀k:Nat,IsL K H (List.replicate k vs).flatten (List.replicate k ds).flatten
 |0=>.nil
 |k+1=>by rw[List.replicate_succ,List.replicate_succ,List.flatten_cons,List.flatten_cons];exact h.append (IsL.rep h k)
section
variable {X:Cx}{a b:Expr}{pos:Pos}
theorem BG {fa fb:FE}(ha:JE X a fa)(hb:JE X b fb):JE X (.BinOp a .Mult b pos) (yP fa fb):=by
 refine PE.to (zX Bj ha hb) λσ H Q q=>?_;obtain⟨B,ρ,d,bb,sB,r,ee,q⟩:=q;obtain⟨x,ex,ee⟩:=oX ee;split at ee
 ·rename_i hx;obtain⟨⟨yd,yb⟩,ey,ee⟩:=oX ee;refine⟨B,ρ,x.1,x.2,sB,r,ex,λv H1 N1 x1 i1 fr=>⟨N1,ρ,yd,yb,x1.nh,r.mono x1.bn,ey,λu H2 N2 x2 i2 qd=>?_⟩⟩;obtain⟨a0,vs,ds,rfl,e1,h0,h1,il⟩:=fr hx;rw[e1]at ee;clear qd;cases i2<;>try (simp[BF]at ee;done)
  rename_i k;simp only[BF]at ee;split at ee
  ·rename_i hk;cases ee
   have hl:=il.length;refine⟨a0,k,vs,rfl,rfl,x2.nh _ _ (x2.bn _ _ h1),by omega,by omega,by rw[hl];exact vR hk.2.1 (by decide:(1000:Nat)<=sizeLine),λp hp=>?_⟩;have x3:=Ext.laid (o:=.lst (List.replicate k.toNat vs).flatten) x2.nh hp;have Ff:=((il.mono x2.bn).mono x3.bn).rep k.toNat;exact q _ _ _ ((x1.trans x2).trans x3) (.lst (gb.of aw) Ff) λ_=>⟨_,_,_,rfl,rfl,(x1.trans x2).hh.free hp,aw,Ff⟩
  ·cases ee
 ·cases ee
end
end DL
namespace L2
open PySem PySem.Spec PyProof.Rows
theorem KV.get {b9:List (iB×V)}{vs:List (iB×Value)}(r:KV b9 vs){i:Nat}{k:iB}{x:V}(h:b9[i]? = some (k,x)):∃u,vs[i]? = some (k,u)/\aI x u:=by
 unfold KV at r;induction r generalizing i with
 |nil=>simp at h
 |@cons p q ps qs hq t ih=>
  cases i with
  |zero=>
   cases (show p=(k,x)from vJ h)
   obtain⟨q1,q2⟩:=q;exact⟨q2,by rw[show k=q1 from hq.1];rfl,hq.2⟩
  |succ i=>exact ih h
end L2
namespace DL
open PySem PySem.Spec PyProof.Rows L2
@[simp] abbrev cI (i:Nat)(j:Int):FE:=f2 cJ (aj i) (fC (.int j))
theorem cn (F:Fn X.prog X.w X.K X.mg X.base k x f)(hr:cE j X.A)(ha:JA X (e::es) fa)(hj:k<=j:=by decide)(hg:Gl X x:=by rfl)(ly:(x == ("__debug__" : Str))=false:=by decide)(he:starEach (e::es) X.env=(false,eval e X.env)::starEach es X.env:=by rfl)(hpl:(backTo pos (starEach es X.env)).any (·.1)=false:=by rfl):JE X (.Call (.Name x p) (e::es) [] pos) (fA f fa):=rO F (hr.mono hj) ha hg ly he hpl
theorem Eb (h1:∀y∈scope.names,y.2≠.cell:=by decide +kernel)(h2:scope.kind=.function:=by rfl)(h3:∀y∈scope.names,y.2=.local->scope.names.lookup y.1=some .local:=by decide +kernel)(Hw:(scope.names.all λy=>!(y.2 == NameKind.free) || (X.env.cells.lookup y.1).isSome)=true:=by rfl):CompSc X scope (dm scope.names X.env.cells []):=Bq h1 h2 h3 Hw
theorem II (h1:N'[j]? = some x)(h2:X.N[i]? = some x)(t:jg X N' scope (dm scope.names X.env.cells []) (j+1) r)(h3:X.env.kindOf x=some .cell∨X.env.kindOf x=some .free:=by exact Or.inl rfl)(h4:(relabel scope X.env).names.lookup x=some .cell∨(relabel scope X.env).names.lookup x=some .free:=by exact Or.inl rfl)(hf:(x,NameKind.free)∈scope.names:=by decide +kernel)(hc:(X.env.cells.lookup x).isSome=true:=by rfl):jg X N' scope (dm scope.names X.env.cells []) j (i::r):=.cons h1 h2 h3 h4 (y0 hf hc) t
end DL
namespace DL
open PySem PySem.Spec PySem.W PyProof.Rows L2
def GP:D->Option (List At)
 |.tup [.int n,.tup es]=>(qP es).map (.i n :: ·)
 |_=>none
def Ar:List D->Option (List (List At))
 |[]=>some []
 |d::ds=>(GP d).bind λa=>(Ar ds).map (a :: ·)
@[simp] abbrev GQ:FE->(Env->D->Option D)->FE:=wm Ar λ_=>true
end DL
namespace DL
open PySem PySem.Spec PyProof.Rows L2
def Ed:Nat->(List Value->Prop)->Prop
 |0,P=>P []
 |n+1,P=>∀a,Ed n λl=>P (a::l)
theorem wz:∀n P,Ed n P->∀us:List Value,us.length=n->P us
 |0,_,h,[],_=>h
 |n+1,_,h,a::us,e=>wz n _ (h a) us (Nat.succ.inj e)
section
variable {P:Program}{w:World}{K:Frag}{mg:Str->Option Value}{base:Heap}
def KC (K:Frag)(mg:Str->Option Value)(x:Str)(c:D):Prop:=∃u v,mg x=some u/\aI v u/\∀B,Is K B v c
def KD (w:World)(K:Frag)(mg:Str->Option Value)(x:Str)(c:List (Str×D)):Prop:=∃d,mg x=some (.ref d)/\iP K w.params d c
theorem kc_of {x:Str}{c:D}{h:Heap}(X:K.In h)(G:h.Ns mainGlobals mg)(k:∃u v,PySem.W.nsIn K mainGlobals x=some (some u)/\aI v u/\∀B,Is K B v c):KC K mg x c:=let ⟨u,v,e,r⟩:=k;⟨u,v,mg_of X G e,r⟩
theorem kd_of {x:Str}{c:List (Str×D)}{h:Heap}(X:K.In h)(G:h.Ns mainGlobals mg)(k:∃d,PySem.W.nsIn K mainGlobals x=some (some (.ref d))/\iP K w.params d c):KD w K mg x c:=let ⟨d,e,r⟩:=k;⟨d,mg_of X G e,r⟩
theorem dU.fqL {x:Str}{st:Stmt}{k:Nat}{F':List D->OB}(F:dU K x st)(B:∃h,K.In h/\h.Ns mainGlobals mg)(g:FS)(N:List Str)(n:Nat)
  (hb:∀ {f:Addr}{bM:Value}{A:Around}{outer:List PySem.Env}{s:Shared}{H:Hp}{E:XK},N.Nodup->cE k (A.deeper (envOfC x (ar st) s.heap.objs.size f bM))->(A.deeper (envOfC x (ar st) s.heap.objs.size f bM)).units+40<cLine->(∀c P,PySem.W.tabIn K x=some (c,P)->bM=.ref c)->nZ (eC kq P w K mg base N x (ar st) f bM A outer s H E).nox (ba st) g)
  (S:FnScope N (N.take n) (ar st):=by refine⟨rfl,rfl,rfl,?_,rfl,?_,?_⟩<;>decide +kernel)
  (ro:∀(kV doc pm:Value)(an:Option Addr)(bM ct:Value)(us:List Value),us.length=(N.take n).length->bindArgs (fnOf x x (c6 st) (ba st) (ar st) .none kV doc pm an bM ct) ⟨us,[]⟩=pure ((N.take n).zip us):=by
   exact λ_ _ _ _ _ _=>wz _ _ (by(repeat intro);rfl))
  (e:aZ g (N.take n).length (N.length - (N.take n).length)=F':=by rfl):
  Fn P w K mg base (k+1) x F':=let ⟨_,X,G⟩:=B;e ▸ F.fnL X G S ro λ_ _ _ _ _ _ _ hc hr=>hb S.nd hr (By hr) hc
theorem dU.fq {x:Str}{st:Stmt}{k:Nat}{F':List D->OB}(F:dU K x st)(B:∃h,K.In h/\h.Ns mainGlobals mg)(g:FS)(N:List Str)(n:Nat)
  (hb:∀ {f:Addr}{bM:Value}{A:Around}{outer:List PySem.Env}{s:Shared}{H:Hp}{E:XK},N.Nodup->cE k (A.deeper (envOfC x (ar st) s.heap.objs.size f bM))->(A.deeper (envOfC x (ar st) s.heap.objs.size f bM)).units+40<cLine->nZ (eC kq P w K mg base N x (ar st) f bM A outer s H E).nox (ba st) g)
  (S:FnScope N (N.take n) (ar st):=by refine⟨rfl,rfl,rfl,?_,rfl,?_,?_⟩<;>decide +kernel)
  (ro:∀(kV doc pm:Value)(an:Option Addr)(bM ct:Value)(us:List Value),us.length=(N.take n).length->bindArgs (fnOf x x (c6 st) (ba st) (ar st) .none kV doc pm an bM ct) ⟨us,[]⟩=pure ((N.take n).zip us):=by
   exact λ_ _ _ _ _ _=>wz _ _ (by(repeat intro);rfl))
  (e:aZ g (N.take n).length (N.length - (N.take n).length)=F':=by rfl):
  Fn P w K mg base (k+1) x F':=F.fqL B g N n (λn r u _=>hb n r u) S ro e
end
section
variable {X:Cx}{x:Str}{pos:Pos}
theorem BH (i:Nat)(hN:X.N.Nodup)(hi:X.N[i]? = some x:=by rfl)(hx:zQ X.env.scope x:=by first|exact Or.inl rfl|exact Or.inr rfl)(hf:X.fn x=true∨X.env.scope.names.lookup x=some .local:=by first|exact .inl rfl|exact .inr rfl):PG X (.Name x pos) (iI i):=rA hN hi hx hf
theorem CC {fp}(i:Nat)(hN:N'.Nodup:=by decide +kernel)(hi:(fu X N' scope cl C s H fp).N[i]? = some x:=by rfl)(hx:zQ (fu X N' scope cl C s H fp).env.scope x:=by exact Or.inl rfl)(hf:(fu X N' scope cl C s H fp).fn x=true∨(fu X N' scope cl C s H fp).env.scope.names.lookup x=some .local:=by first|exact .inl rfl|exact .inr rfl):PG (fu X N' scope cl C s H fp) (.Name x pos) (iI i):=rA hN hi hx hf
theorem hV (N':List Str)(hi:JI X tg bS fi)(hc:∀ {C s H fp},JC (fu X N' scope (dm scope.names X.env.cells []) C s H fp) l8 fc)(he:∀ {C s H fp},JE (fu X N' scope (dm scope.names X.env.cells []) C s H fp) lS fe)
  (xw:Ag X.K nT jN g:=by first|exact o9 (by decide)|exact Ak (by decide)) (hg:∀ {C s H fp},PG (fu X N' scope (dm scope.names X.env.cells []) C s H fp) tg g:=by intros;first|exact CC 0|exact uC rfl (fJ (CC 0) (fJ (CC 1) mP)))
  (cp:jg X N' scope (dm scope.names X.env.cells []) nT cap:=by repeat first|exact .nil rfl|refine II rfl rfl ?_)
  (S:CompSc X scope (dm scope.names X.env.cells []):=by exact Eb) (gu:X.calm=true:=by rfl)
  (hs:∀x,foldedSetIterable bS X.env x=pure x:=by intro _;rfl):
  JE X (.ListComp lS [⟨tg,bS,l8,0⟩] scope pos) (bO fi nT cap jN fc fe):=y3 gu S cp hi (λ_ _ _ _=>hg) xw (λ_ _ _ _=>hc) (λ_ _ _ _=>he) hs
theorem sw (N':List Str)(hN:X.N.Nodup)(hi:JI X tg bS fi)(hc:∀ {C s H fp},JC (fu X N' scope (dm scope.names X.env.cells []) C s H fp) l8 fc)(he:∀ {C s H fp},JE (fu X N' scope (dm scope.names X.env.cells []) C s H fp) lS fe)
  (xw:Ag X.K nT jN g:=by first|exact o9 (by decide)|exact Ak (by decide)) (hg:∀ {C s H fp},PG (fu X N' scope (dm scope.names X.env.cells []) C s H fp) tg g:=by intros;first|exact CC 0|exact uC rfl (fJ (CC 0) (fJ (CC 1) mP)))
  (cp:jg X N' scope (dm scope.names X.env.cells []) nT cap:=by repeat first|exact .nil rfl|refine II rfl rfl ?_)
  (Hz:X.N[i]? = some y:=by rfl) (hy:X.env.kindOf y=some .local:=by rfl)
  (xz:swapsWith (.ListComp lS [⟨tg,bS,l8,0⟩] scope pos) (some (.Name y py)) spos.line X.env=pure true:=by rfl)
  (S:CompSc X scope (dm scope.names X.env.cells []):=by exact Eb) (gu:X.calm=true:=by rfl)
  (hs:∀x,foldedSetIterable bS X.env x=pure x:=by intro _;rfl):
  JS X (.Assign [.Name y py] (.ListComp lS [⟨tg,bS,l8,0⟩] scope pos) spos) (bt i (bO fi nT cap jN fc fe)):=y4 gu hN Hz hy xz S cp hi (λ_ _ _ _=>hg) xw (λ_ _ _ _=>hc) (λ_ _ _ _=>he) hs
theorem Ee (hi:JI X tg bS fi)(hg:PG X tg t)(ht:yy X.K jN t)(hb:nZ X body g)(hp:PassesOwn (model X.prog X.w) X.A X.env X.xe:=by exact PassesOwn.never)(hc:X.calm=true:=by rfl)
  (hs:∀x,foldedSetIterable bS X.env x=pure x:=by intro _;rfl):JS X (.For tg bS body [] pos) (t8 fi jN g):=Bw hp hc hi hg ht hb hs
theorem w4 (hi:PI X tg bS (C6 X.K fi))(hg:PG X tg t)(ht:yy X.K jN t)(hb:nZ X body g)(hp:PassesOwn (model X.prog X.w) X.A X.env X.xe:=by exact PassesOwn.never)(hc:X.calm=true:=by rfl)
  (hs:∀x,foldedSetIterable bS X.env x=pure x:=by intro _;rfl):JS X (.For tg bS body [] pos) (fO fi jN g):=yA hp hc hi hg ht hb hs
end
@[simp] abbrev fV (i:Nat)(g:FA):FA:=aa (aj i) g
@[simp] abbrev fI (n:Int):FE:=fC (.int n)
@[simp] abbrev fS (s:PySem.Str):FE:=fC (.str s)
section
variable {X:Cx}{es:List Expr}{g:FA}{pos:Pos}
theorem bv {x:Str}{p:Pos}(i:Nat)(hr:JA X es g)(hN:X.N[i]? = some x:=by rfl)(hv:xS X.env.scope x:=by first|exact Or.inl rfl|exact Or.inr (Or.inl rfl)|exact Or.inr (Or.inr rfl))(hd:(x == ("__debug__" : Str))=false:=by decide)(gt:(x == ("__classdict__" : Str))=false:=by decide)
  (hs:starEach (.Name x p::es) X.env=(false,eval (.Name x p) X.env)::starEach es X.env:=by rfl):JA X (.Name x p::es) (fV i g):=ag (ah i hN hv hd gt) hr hs
theorem aY {i:Int}{j:Nat}(hr:JA X es g):JA X (.Constant (.int i) j pos::es) (aa (fC (.int i)) g):=ag al hr
theorem bG (F:Fn X.prog X.w X.K X.mg X.base k x f)(hr:cE j X.A)(ha:JA X (e::es) g:=by repeat first|exact ae|refine bv _ ?_|refine ag av ?_)(hj:k<=j:=by decide)(hg:Gl X x:=by rfl)(ly:(x == ("__debug__" : Str))=false:=by decide)(he:starEach (e::es) X.env=(false,eval e X.env)::starEach es X.env:=by rfl)(hpl:(backTo pos (starEach es X.env)).any (·.1)=false:=by rfl):JE X (.Call (.Name x p) (e::es) [] pos) (fA f g):=rO F (hr.mono hj) ha hg ly he hpl
theorem bL (he:JE X e f):nZ X [.Return (some e) pos] (aX f):=cz (vm he)
theorem cr {c:Expr}{fc:FT}(hc:JT X c fc)(he:JE X e f):JS X (.If c [.Return (some e) p] [] pos) (dj fc (aX f) aU):=gE hc (cz (vm he)) fz
theorem bc (i:Nat)(hN:X.N[i]? = some x:=by rfl)(hv:xS X.env.scope x:=by first|exact Or.inl rfl|exact Or.inr (Or.inl rfl)|exact Or.inr (Or.inr rfl))(hd:(x == ("__debug__" : Str))=false:=by decide)(gt:(x == ("__classdict__" : Str))=false:=by decide):JE X (.Subscript (.Name x p) (.Constant (.int n) j q) pos) (cI i n):=cK (ah i hN hv hd gt) al
end
structure FnD (P:Program)(w:World)(K:Frag)(mg:Str->Option Value)(base:Heap)(k:Nat)(x:Str)(f:List D->OB):Prop where
 ex:∃(ad:Addr)(fd:FuncData)(ps:List Str),fg P w K mg base kq k ad fd ps (xK K f)/\mg x=some (.ref ad)/\PySem.W.keepIn K (.ref ad)=true/\eB K fd ps []/\eB K fd ps [.none]
theorem FnD.fn {P:Program}{w:World}{K:Frag}{mg:Str->Option Value}{base:Heap}(F:FnD P w K mg base k x f):Fn P w K mg base k x f:=let ⟨ad,fd,ps,h1,h2,h3,h4,_⟩:=F.ex;⟨ad,fd,ps,h1,h2,h3,h4⟩
end DL
namespace DL
open PySem PySem.Spec PySem.W PyProof.Rows L2
def GR (ns:List Int):Prop:=∀i∈ns,Builtin.Int.intBits i<=1048576
theorem BI {ns:List Int}(h:WData.layableAll [WData.list (ns.map WData.int)]=true):GR ns:=λi hi=>by
 have h1:(WData.list (ns.map WData.int)).layable=true:=layableW_arg h _ (List.mem_singleton.mpr rfl);have h2:=layableW_item h1 (WData.int i) (List.mem_map.mpr ⟨i,hi,rfl⟩);unfold WData.layable at h2;have h3:=of_decide_eq_true (vC _ _ ▸ h2).2;unfold WData.weight at h3;unfold Builtin.Int.intBits;omega
theorem walkB {l:PySem.W.OpenLaw}{q:Program}{Fg:List Str}{XP:(Str->Option Value)->Heap->Prop}{YP:World->Heap->Prop}{d:DefRec}{K:Params->Frag}{k:Nat}{x:Str}{f:List D->OB}{L:List (Str×Option (Addr×Addr))}(hn:l.most=some 63)(LN:d.params.defaults=[])(hr:cE k callerA)
  (hY:∀(w:World)(h:Heap),YP w h->(K w.params).In h) (hT:∀w:World,ke (K w.params) L) (hD:(L.all λp=>p.2.isNone || ((recsOf q).find? λe=>e.name == p.1).isSome)=true)
  (F:∀(w:World)(mg:Str->Option Value)(fa:Addr)(h:Heap),(K w.params).In h->h.Ns mainGlobals mg->mg d.name=some (.ref fa) ->
   ∃fd:FuncData,(∀(s:Shared)(u:Value),BindsTo s fd ⟨[u],[]⟩ [(x,u)])/\∀base:Heap,(K w.params).In base->base.Ns mainGlobals mg->fg l.prog w (K w.params) mg base kq k fa fd [x] (xK (K w.params) f))
  (ht:∀ns:List Int,ns.length<=63->GR ns->∃b,f [.lst (ns.map .int)]=some (.bl true,b)):PySem.W.WalkO q Fg XP YP l.row.toRowW d [] (λf vs=>PySem.call f vs):=by
 intro w s₀ s₁ mg mb G Y fa o pm cd doc dV kV ho hd gt hD' hmg hg args vals as z6 hlay hrd Hr hlo;obtain rfl:dV=.none:=Dflts.none hD' LN;obtain rfl:kV=.none:=Dflts.noKw hD';obtain⟨a,vs,ns,rfl,rfl,HW,Fh,bT⟩:=Att.tx hn z6 Hr;have KX:=hY w _ Y;obtain⟨fd,hb,hF⟩:=F w mg fa _ KX G.T.g hmg;refine enter_call (codeAny_mono (tH (nD L) (λb u e=>?_) (hT w).none KX G.T.g G.T.b G.T.builtins G.T.nolimit G.T.bmain hg HW Fh (vR bT (by decide)) hr hF hb λH hH hS=>?_) λr s' hq=>?_)
 ·obtain⟨p,hp,e2⟩:=List.mem_filterMap.mp (gG e);obtain⟨⟨c,P⟩,e3,e4⟩:=oY e2;cases e4
  have HY:=uR hD p hp;rw[e3]at HY;rw[Option.isNone_some,Bool.false_or]at HY;obtain⟨r,HZ⟩:=Option.isSome_iff_exists.mp HY;have Ia:PySem.W.tabIn (K w.params) p.1=some (c,P):=by
   rw[(hT w).names]at hp;obtain⟨y,_,rfl⟩:=vO hp;exact e3
  obtain⟨h1,h2⟩:=PySem.W.tab_of G.T KX HZ Ia;exact⟨h2,(h1.tab h2).isCodeTable⟩
 ·obtain⟨b,e⟩:=ht ns bT (BI hlay);exact⟨H,_,_,b,⟨.refl H,(hT w).tb hH⟩,.cons (.lst hS (.flat rfl)) .nil,e,λv H' N x' i' _=>by cases i';rfl⟩
 ·obtain⟨rfl,h2,h3,h4⟩:=hq;exact⟨.inl ⟨.bool true,.bool true,[],rfl,λ_=>rfl,.bool true,Att.t6 l _,λ_=>⟨List.Pairwise.nil,λ_ hm=>(nomatch hm)⟩⟩,h2,h3,h4⟩
structure OneK (α:Type)[DecidableEq α] where
 v:α->V
 ev:Value->α->Bool
 as:List D->Option (List α)
 AE:∀ {a:α}{u:Value},aI (v a) u->∀b,ev u b=decide (a=b)
 eq:∀ {A:Around}{s:Shared}{a b:α}{u u':Value},aI (v a) u->aI (v b) u'->PySem.SeqAt.EqAt A s u u' (ev u b)
 is:∀ {K:Frag}{B:Hp}{ws:List V}{ds:List D}{l:List α},IsL K B ws ds->as ds=some l->ws=l.map v
section
variable {X:Cx}
@[simp] noncomputable def Kq:List D->OB
 |[.int i]=>if i.natAbs.log2<1920 then some (.str (toString i),false)else none
 |[.str x]=>some (.str x,false)
 |_=>none
@[simp] noncomputable def Kr:List D->OB
 |[.str x]=>(PySem.intText? x).bind λn=>if x.length<=640 then some (.int n,false)else none
 |_=>none
end
end DL
namespace EX
open PySem PySem.W
open Sem (wp)
noncomputable abbrev BJ:List Value:=[.type "ValueError",.type "Exception",.type "BaseException",.type "object"]
section
variable {prog:Program}{w:World}{A:Around}{E:Value->Shared->Prop}{h:Heap}{g:Array GenState}{d:Drawn}{t:Nat}{os:OsState}
variable {nm q:Str}{C N:Addr}{bs bm Fi:List Value}{hdct:Bool}{sn:List Str}{sub:List Value}{ab:Bool}{col:Option Bool}{dd:Option Addr}{k0 k1 k2 k3 k5:Option Value}{B newId rq:String}
theorem tZ {K:Frag}(X:K.In h)(F:ExcBaseFacts B newId rq Fi)(O:OwnTail h Fi bm){aA:List Value}{fI:Addr}{oI:Obj}{Q:Fin->Shared->Prop}
  (hC:h.get? C=some (excClassObj nm q C N bs bm hdct sn sub ab col dd k0 k1 k2 k3 k5 newId)) (hi:findIn K (.ref C) "__init__" = some (some (.ref fI)))
  (Ib:h.get? fI=some oI) (Ic:oI.cls=.type "function")
  (hq:∀h' e,Heap.MadeExcOf h h' e (.ref C) aA->h.objs.size<=e ->
   wpAny (model prog w) A (call (.ref fI) (.ref e::aA)) (λr s'=>r=.none/\Q (.done (.ret (.ref e))) s') E ⟨h',g,d,t,os⟩) (hrest:aA.length<=sizeLine:=by size_fits):
  wpAny (model prog w) A (Builtin.«type.__call__» ⟨.ref C::aA,[]⟩) Q E ⟨h,g,d,t,os⟩:=by
 repeat (first|with_reducible refine wpAny_loadPart_at hC ?_|with_reducible refine wpAny_madeBy_exc hC ?_|wp_step)
 refine codeAny_call_builtin_code (Code.quiet_builtin _ F.quiet) (wpAny_check_new_subT F O hC ?_);refine codeAny_exc_new_subT F O hC ?_ hrest;show wpAny _ _ _ _ _ _;have kp:∀b o,h.get? b=some o->((h.push { cls:=.type "tuple",data:=.seq aA.toArray }).push { cls:=.ref C,data:=.fields #[.ref h.objs.size,.none,.none,.none,.bool false,.none] }).get? b=some o :=
  λb o e=>vZ _ (vZ _ e)
 have Fj:=kp _ _ hC;have Cv:=kp _ _ Ib;have zK:((h.push { cls:=.type "tuple",data:=.seq aA.toArray }).push
   { cls:=.ref C,data:=.fields #[.ref h.objs.size,.none,.none,.none,.bool false,.none] }).get? (h.objs.size+1)=some
   { cls:=.ref C,data:=.fields #[.ref h.objs.size,.none,.none,.none,.bool false,.none] }:=by heap_get
 have LO:(Value.ref C::bm).contains (.ref C)=true:=by simp
 unfold isInstance;repeat (first|with_reducible refine wpAny_loadPart_at zK ?_|(with_reducible refine wpAny_isSubtype_exc Fj ?_;rw[LO])|wp_step)
 show wpAny _ _ (typeLookup (.ref C) _) _ _ _;refine looks_findIn X hi _ _ _ _ kp ?_;refine wpAny_holding (wX ?_);unfold bindSpecial;refine wX (wpAny_typeOf (T:="function") ⟨_,Cv,Ic⟩ ?_);rw[if_pos (by decide)];refine wY (wX (wpAny_mono (hq _ (h.objs.size+1) ⟨kp,Heap.get?_none_of_le (Nat.le_succ _),h.objs.size,zK,Heap.get?_none_of_le (vT _),?_⟩ ?_) (λr s' hr=>?_) λ_ _ x=>x))
 ·exact vZ _ (Heap.get?_push_at rfl rfl)
 ·exact Nat.le_succ _
 ·obtain⟨rfl,hQ⟩:=hr;wp_walk;exact hQ
theorem w5 {K:Frag}(X:K.In h)(F:ExcBaseFacts B newId rq Fi)(O:OwnTail h Fi bm){aA:List Value}{fI:Addr}{oI:Obj}{Q:Value->Shared->Prop}
  (hC:h.get? C=some (excClassObj nm q C N bs bm hdct sn sub ab col dd k0 k1 k2 k3 k5 newId)) (hi:findIn K (.ref C) "__init__" = some (some (.ref fI)))
  (Ib:h.get? fI=some oI) (Ic:oI.cls=.type "function")
  (hq:∀h' e,Heap.MadeExcOf h h' e (.ref C) aA->h.objs.size<=e ->
   wpAny (model prog w) (A.under (.builtin "type.__call__" ⟨.ref C::aA,[]⟩)) (call (.ref fI) (.ref e::aA)) (λr s'=>r=.none/\Q (.ref e) s') E ⟨h',g,d,t,os⟩) (hrest:aA.length<=sizeLine:=by size_fits):
  wpAny (model prog w) A (call (.ref C) aA) Q E ⟨h,g,d,t,os⟩:=by
 have f1:=tc_lookup;have f2:=tc_bind (.ref C);have hT:(⟨h,g,d,t,os⟩:Shared).TypeIs (.ref C) "type":=⟨_,hC,rfl⟩;refine wpAny_call (codeAny_of_tree ?_);show wpAny _ _ (callAny (.ref C) _) _ _ _;repeat (any_goals (first|assumption|with_reducible refine wpAny_loadPart_at hC ?_|wp_step))
 refine⟨rfl,?_⟩;refine codeAny_call_builtin_at (Code.quiet_builtin _ (by decide +kernel)) entry_typeCall (wpAny_check_type_call_sub hC (tZ (hrest:=hrest) X F O hC hi Ib Ic λh' e hm hs=>?_));exact hq h' e hm hs
theorem qT {M:Model}{env:PySem.Env}{s:Shared}{x:Sem Value}{Q:Flow->Shared->Prop}(hb:bm.contains (.type "BaseException")=true)(hh:A.handled=none)
  (hx:wpAny M A x (λv s₁=>∃e t0 dx,v=.ref e/\s₁.heap.get? C=some (excClassObj nm q C N bs bm hdct sn sub ab col dd k0 k1 k2 k3 k5 newId) /\
   s₁.heap.get? e=some { cls:=.ref C,dict:=dx,data:=.fields #[.ref t0,.none,.none,.none,.bool false,.none] }/\E (.ref e) s₁) E s):
  wpAny M A (raiseStmt env (some x) none) Q E s:=by
 have LP:(Value.ref C::bm).contains (.type "BaseException")=true:=by rw[List.contains_cons,hb,Bool.or_true]
 unfold raiseStmt;refine wX (wpAny_mono hx (λv s₁ h₁=>?_) λ_ _ x=>x);obtain⟨e,t0,dx,rfl,hC,he,hE⟩:=h₁;obtain⟨hp,g,d,tk,os⟩:=s₁;repeat (first|with_reducible refine wpAny_loadPart_at he ?_|with_reducible refine wpAny_loadPart_at hC ?_|(with_reducible refine wpAny_isSubtype_exc hC ?_;rw[LP])|wp_step)
 exact wpAny_raiseNew_none hh hE
end
end EX
namespace EX
open PySem PySem.W Builtin Builtin.ObjectAttr
open Sem (wp)
section
variable {prog:Program}{w:World}{A:Around}{E:Value->Shared->Prop}{h:Heap}{g:Array GenState}{d:Drawn}{t:Nat}{os:OsState}
variable {nm q:Str}{C N x:Addr}{bs bm Fi:List Value}{sn:List Str}{sub:List Value}{ab:Bool}{col:Option Bool}{dd:Option Addr}{k0 k1 k2 k3 k5:Option Value}{B newId rq:String}{name:Str}{v:Value}{o:Obj}
theorem ua {K:Frag}(X:K.In h){tk:Tok}{Q:Fin->Shared->Prop}(hp:∀self:Value,refuseLoop self "__setattr__" bm=pure ())
  (hC:h.get? C=some (excClassObj nm q C N bs bm true sn sub ab col dd k0 k1 k2 k3 k5 newId)) (xG:findIn K (.ref C) name=some none)
  (hx:h.get? x=some o) (hc:o.cls=.ref C) (AF:∀c,o.data≠.cls c) (Gj:o.dict=none)
  (hq:∀h' zL,h'.get? x=some { o with dict:=some h.objs.size }->h'.Ns1 h.objs.size (λy=>if y=name then some v else none)->(∀b ob,b≠x->h.get? b=some ob->h'.get? b=some ob)->Q (.done (.ret .none)) ⟨h',g,d,zL,os⟩):
  wpAny (model prog w) A (Builtin.«object.__setattr__» ⟨[.ref x,.str name tk,v],[]⟩) Q E ⟨h,g,d,t,os⟩:=by
 have Fk:=hp (.ref x);have L:=looks_findIn (M:=model prog w) X xG;unfold Builtin.«object.__setattr__»;repeat (first|rw[refuse_eq]|(rw[refuseLoop_ref,Fk])|(with_reducible refine wpAny_loadPart_at hx ?_;rw[hc])|with_reducible refine wpAny_mroOf_exc hC ?_|wp_step)
 refine L _ _ _ _ (λ_ _ e=>e) ?_;repeat (first|(with_reducible refine wpAny_loadPart_at hx ?_;rw[hc])|with_reducible refine wpAny_loadPart_at hC ?_|wp_step)
 rw[Gj,if_neg (by simp[typeHasDict])];split
 ·rename_i gt;cases gt
 split
 ·rename_i c gt;exact absurd gt (AF c)
 ·have AG:(h.push { cls:=.type "dict",data:=.dict #[] }).get? x=some o:=vZ _ hx;have CT:x≠h.objs.size:=vS (vX hx);refine wX (wpAny_alloc' ?_);refine wX (wpAny_update' AG ?_);refine wY ?_;have LQ:((h.push { cls:=.type "dict",data:=.dict #[] }).update x λo=>{ cls:=o.cls,dict:=some h.objs.size,data:=o.data,slots:=o.slots }).get? h.objs.size
    = some { cls:=.type "dict",data:=.dict #[] } :=
   (Heap.get?_update_ne _ _ _ _ CT.symm).trans (Heap.get?_push_at rfl rfl)
  have Fl:((h.push { cls:=.type "dict",data:=.dict #[] }).update x λo=>{ cls:=o.cls,dict:=some h.objs.size,data:=o.data,slots:=o.slots }).Ns h.objs.size (λ_=>none) :=
   ⟨_,#[],_,LQ,rfl,λe he=>absurd he (by simp),λ_=>rfl⟩
  show wpAny _ _ (storeInDict h.objs.size (.str name tk) name v) _ _ _;unfold storeInDict newKeyGuard;refine wX (wY (wX (wpAny_nsSet1 (Heap.Ns1.of_empty Fl) λh' CK hs=>?_)));obtain⟨oD,M2,M3,LR,LS,zM⟩:=CK.count (Within.cons name v Within.nil);refine wX (wpAny_lookBehind LR (by rw[LS];exact pastItsLine_dict (vR zM (by rw[vD,List.length_nil,sizeLine_eq];omega))) ?_);wp_walk;refine hq h' _ ?_ ?_ (λb ob hbx hb=>?_)
  ·refine(hs.2 x CT).trans (Heap.get?_update_self _ AG ?_);have qd:=(Heap.get?_some_iff.mp hx).2;obtain⟨oc,od,LU,jz⟩:=o;cases LU<;>first|rfl|exact qd
  ·exact CK
  ·exact(hs.2 b (vS (vX hb))).trans ((Heap.get?_update_ne _ _ _ _ hbx).trans (vZ _ hb))
theorem yQ {K:Frag}(X:K.In h){Q:Unit->Shared->Prop}(hp:∀self:Value,refuseLoop self "__setattr__" bm=pure ())(LV:mroIn K C (.type "object")=some true)
  (hC:h.get? C=some (excClassObj nm q C N bs bm true sn sub ab col dd k0 k1 k2 k3 k5 newId)) (hs:findIn K (.ref C) "__setattr__" = some (some (.builtin "object.__setattr__"))) (xG:findIn K (.ref C) name=some none)
  (hx:h.get? x=some o) (hc:o.cls=.ref C) (AF:∀c,o.data≠.cls c) (Gj:o.dict=none)
  (hq:∀h' zL,h'.get? x=some { o with dict:=some h.objs.size }->h'.Ns1 h.objs.size (λy=>if y=name then some v else none)->(∀b ob,b≠x->h.get? b=some ob->h'.get? b=some ob)->Q () ⟨h',g,d,zL,os⟩):
  wpAny (model prog w) A (setAttr (.ref x) name v) Q E ⟨h,g,d,t,os⟩:=by
 have SF:=PySem.F.store_object;have I:InstAt h x o C none:=⟨hx,hc,by unfold notCls;split<;>first|rfl|(rename_i c q;exact absurd q (AF c)),by rw[Gj];trivial⟩
 refine set_plain X I hs ?_;have sb:Looks (model prog w) h (isInstance (.ref x) (.type "object")) true:=I.type.andThen (looks_mroIn X LV);refine codeAny_call_builtin SF.slot.plain SF.entry (@check_slot (model prog w) _ _ ⟨h,g,d,t+1,os⟩ "object.__setattr__" "object" "__setattr__" (.ref x) [.str name t,v] [] _ SF.kind SF.split sb (SF.args (.ref x) (.str name t) v) ?_);exact ua X hp hC xG hx hc AF Gj λh' zL a1 a2 a3=>hq h' zL a1 a2 a3
end
open Sem (wp)
theorem pz:builtinKind "BaseException.__getattribute__" = some .slot:=by decide +kernel
theorem m7:splitId "BaseException.__getattribute__" = some ("BaseException","__getattribute__"):=by decide +kernel
section
variable {prog:Program}{w:World}{A:Around}{E:Value->Shared->Prop}{s:Shared}{K:Frag}{x C:Addr}{ox:Obj}{od:Option Obj}{name:Str}{Cj:Bool}{Q:Value->Shared->Prop}{v:Value}
theorem yR (X:K.In s.heap)(I:InstAt s.heap x ox C od)(Fm:findIn K (.ref C) "__getattribute__" = some (some (.builtin "BaseException.__getattribute__")))(hk:findIn K (.ref C) "__getattr__" = some none)
  (hb:mroIn K C (.type "BaseException")=some true) (hf:findObj K C od name=some (.value v)) (hh:handedIn v=true) (h:Q v { s with toks:=s.toks+1 }):wpAny (model prog w) A (getAttr (.ref x) name Cj) Q E s:=by
 obtain⟨CU,g,d,t,os⟩:=s;have L0:=I.type (M:=model prog w);have L1:=looks_findIn (M:=model prog w) X Fm;have L2:=looks_findIn (M:=model prog w) X hk;have L3:=looks_find (M:=model prog w) X I hf;have sb:Looks (model prog w) CU (isInstance (.ref x) (.type "BaseException")) true:=L0.andThen (looks_mroIn X hb);have FX:=PySem.F.excAttr_ValueError;unfold getAttr getAttrBy;refine wX (wpAny_mkText (wpAny_holding (wX (L0.at (wX (L1.at ?_))))));show wpAny _ _ (getAttrByItsOwn _ _ _ _ _ _) _ _ _;unfold getAttrByItsOwn hookBefore;refine wX ?_;rw[if_pos (show onTheHeap (Value.ref C)=true from rfl)];refine L2.at ?_;refine wX (wpAny_attempt (wpAny_holding ?_));unfold callGetattribute;rw[if_neg (by cases Cj<;>decide)]
 unfold boundAndCalled;refine wX ?_;rw[FX.ga.bind (.ref x)];refine wY ?_;refine wpAny_call (codeAny_call_builtin FX.ga.plain F.entry_bexc_ga (@check_slot (model prog w) _ _ ⟨CU,g,d,t+1,os⟩ "BaseException.__getattribute__" "BaseException" "__getattribute__" (.ref x) [.str name t] [] _ pz m7 sb (F.args_bexc_ga (.ref x) (.str name t)) ?_));unfold Builtin.«object.__getattribute__»;refine wX (wY (wX (wY (wX (L0.at (wX (L3.at ?_)))))));refine wY ?_;show wpAny _ _ (handedOut v) _ _ _;rw[handedOut_of hh];exact wY h
end
open Sem (wp)
section
variable {prog:Program}{w:World}{A:Around}{E:Value->Shared->Prop}{s:Shared}{K:Frag}{x C:Addr}{ox:Obj}{od:Obj}{name:Str}{v:Value}
theorem yS {Q:Option Value->Shared->Prop}(X:K.In s.heap)(I:InstAt s.heap x ox C (some od))(Fm:findIn K (.ref C) "__getattribute__" = some (some (.builtin "BaseException.__getattribute__")))(hk:findIn K (.ref C) "__getattr__" = some none)
  (hb:mroIn K C (.type "BaseException")=some true) (hdct:hasDictIn K C=true) (ha:findIn K (.ref C) "__class__" = some (some (.builtin "object.__class__")))
  (hn:specialIn K (.builtin "object.__class__") "__get__" = some (some (.builtin "getset_descriptor.__get__"))) (CL:takesIn K (.builtin "object.__class__")=some true) (hm:mroIn K C (.type "object")=some true)
  (h:Q (some (.ref C)) { s with toks:=s.toks+1 }):wpAny (model prog w) A (getAttr? (.ref x) "__class__") Q E s:=by
 obtain⟨CU,g,d,t,os⟩:=s;have L0:=I.type (M:=model prog w);have L1:=looks_findIn (M:=model prog w) X Fm;have L2:=looks_findIn (M:=model prog w) X hk;obtain⟨cd,gt,_⟩:=any_some hdct;have hf:findObj K C (some od) "__class__" = some (.bind (.builtin "getset_descriptor.__get__") (.builtin "object.__class__")):=findObj_data (by rw[gt];rfl) ha hn CL;have L3:=looks_find (M:=model prog w) X I hf;have sb:Looks (model prog w) CU (isInstance (.ref x) (.type "BaseException")) true:=L0.andThen (looks_mroIn X hb);have FX:=PySem.F.excAttr_ValueError;unfold getAttr? getAttrBy?;refine wX (wpAny_mkText (wX (wpAny_attempt ?_)));unfold getAttrBy;refine wpAny_holding (wX (L0.at (wX (L1.at ?_))));show wpAny _ _ (getAttrByItsOwn _ _ _ _ _ _) _ _ _;unfold getAttrByItsOwn hookBefore;refine wX ?_;rw[if_pos (show onTheHeap (Value.ref C)=true from rfl)];refine L2.at ?_;refine wX (wpAny_attempt (wpAny_holding ?_));unfold callGetattribute;rw[if_neg (by decide)];unfold boundAndCalled;refine wX ?_;rw[FX.ga.bind (.ref x)];refine wY ?_;refine wpAny_call (codeAny_call_builtin FX.ga.plain F.entry_bexc_ga (@check_slot (model prog w) _ _ ⟨CU,g,d,t+1,os⟩ "BaseException.__getattribute__" "BaseException" "__getattribute__" (.ref x) [.str "__class__" t] [] _ pz m7 sb (F.args_bexc_ga (.ref x) (.str "__class__" t)) ?_));unfold Builtin.«object.__getattribute__»;refine wX (wY (wX (wY (wX (L0.at (wX (L3.at ?_)))))));show wpAny _ _ (holding [Value.builtin "object.__class__"] (call (.builtin "getset_descriptor.__get__") [.builtin "object.__class__",.ref x,.ref C])>>=ret) _ _ _;refine wX (wpAny_holding (wpAny_call (class_get (s:=⟨CU,g,d,t+1,os⟩) (ox:=ox) (od:=some od) X I hm ?_)));refine wY ?_;exact wY (wY h)
theorem w6 (Fm:findIn K (.ref C) "__getattribute__" = some (some (.builtin "BaseException.__getattribute__")))(hk:findIn K (.ref C) "__getattr__" = some none)
  (hb:mroIn K C (.type "BaseException")=some true) (hdct:hasDictIn K C=true) (ha:findIn K (.ref C) "__class__" = some (some (.builtin "object.__class__")))
  (hn:specialIn K (.builtin "object.__class__") "__get__" = some (some (.builtin "getset_descriptor.__get__"))) (CL:takesIn K (.builtin "object.__class__")=some true) (hm:mroIn K C (.type "object")=some true):
  KitX K (.ref x) (.ref C) (λh=>∃ox od,InstAt h x ox C (some od)) where
 ty:=λ_ _ _ ⟨_,_,I⟩=>I.type
 it:=λ_ _ X _=>by
  obtain⟨IL,zM,_⟩:=any_some hdct;unfold clsIn at zM;split at zM
  ·rename_i c' d' cd' Ez ho;intro A' Q' E' s' k q;unfold isType loadHead;exact wX (wpAny_loadPart (k _ _ (X _ _ ho)) (wY q))
  ·cases zM
 ne:=λh tp dd its n sl X htp=>by
  obtain⟨IL,zM,_⟩:=any_some hdct;refine Bool.eq_false_iff.mpr λq=>?_;have e:C=tp:=Value.ref.inj (beq_iff_eq.mp q);subst e;unfold clsIn at zM;split at zM
  ·rename_i c' d' cd' Ez ho;have z:=(X _ _ ho).symm.trans htp;cases z
  ·cases zM
 ca:=λX ⟨_,_,I⟩ k=>yS X I Fm hk hb hdct ha hn CL hm k
end
end EX
namespace EX
open PySem PySem.W
def Kp (fr ch:List Addr)(h h':Heap):Prop:=∀b o,h.get? b=some o->b∉ch->(b∉fr->h'.get? b=some o)/\∃sl,h'.get? b=some { o with slots:=sl }
theorem Kp.trans {fr ch:List Addr}{h h1 h2:Heap}(k1:Kp fr ch h h1)(k2:Kp fr ch h1 h2):Kp fr ch h h2:=λb o e n=>by
 obtain⟨a1,sl,a2⟩:=k1 b o e n;obtain⟨_,FU,a3⟩:=k2 b _ a2 n;exact⟨λhf=>(k2 b o (a1 hf) n).1 hf,FU,a3⟩
theorem Kp.more {fr ch ch':List Addr}{h h':Heap}(k:Kp fr ch h h')(s:∀b o,h.get? b=some o->b∈ch->b∈ch'):Kp fr ch' h h':=λb o e n=>k b o e λz=>n (s b o e z)
theorem Kp.other {fr:List Addr}{a:Addr}(h:Heap)(f:Obj->Obj):Kp fr [a] h (h.update a f):=λb o e n=>by
 have:(h.update a f).get? b=some o:=by rw[Heap.get?_update_other _ _ (λz=>n (by rw[z];exact List.mem_singleton.mpr rfl))];exact e
 exact⟨λ_=>this,o.slots,this⟩
theorem Kp.push {fr ch:List Addr}(h:Heap)(o':Obj):Kp fr ch h (h.push o'):=λb o e _=>⟨λ_=>vZ _ e,o.slots,vZ _ e⟩
theorem w9 {h:Heap}{a:Addr}{o:Obj}{vs:Array Value}(ho:h.get? a=some o)(hd:o.data=.fields vs)(i:Nat)(x:Value):
  (h.update a (Obj.mapFields (·.setIfInBounds i x))).get? a=some { o with data:=.fields (vs.setIfInBounds i x) }:=by
 have e:Obj.mapFields (·.setIfInBounds i x) o={ o with data:=.fields (vs.setIfInBounds i x) }:=by
  obtain⟨c,d,dt,sl⟩:=o;change dt=.fields vs at hd;subst hd;rfl
 have:=Heap.get?_update_self (Obj.mapFields (·.setIfInBounds i x)) ho (by rw[e];rfl);rw[this,e]
section
variable {M:Model}{A:Around}{E:Value->Shared->Prop}{s:Shared}{base:Heap}{env:Env}{outer:List Env}{L e:Addr}{oe:Obj}{vs:Array Value}
theorem wA {head:Value}{LW:Bool}{Q:Unit->Shared->Prop}(qd:A.frames=some (env::outer))(hl:s.heap.FunFrames base (env::outer))(hf:env.frame=some L)
  (he:s.heap.get? e=some oe) (hd:oe.data=.fields vs) (hsz:1<vs.size)
  (h:∀h' T oT ts,h'.get? e=some { oe with data:=.fields (vs.setIfInBounds 1 (.ref T)) }->s.heap.objs.size<=T->h'.get? T=some oT->oT.data=.fields ts->ts[3]? = some (rawInt L)->Kp (L::outer.filterMap (·.frame)) [e] s.heap h'->Q () { s with heap:=h' }):
  wpAny M A (frameOf env>>=λa=>entryPlaceOf L LW>>=λpl=>EntryCells.newEntry head a .none (rawInt L) .none pl>>=λb=>setField (.ref e) 1 b) Q E s:=by
 have qf:(env::outer).filterMap (·.frame)=L::outer.filterMap (·.frame):=by rw[List.filterMap_cons,hf]
 have xO:e∉L::outer.filterMap (·.frame):=λhm=>by
  obtain⟨_,o,ho,hn⟩:=hl.mem (b:=e) (by rw[qf];exact hm);rw[he]at ho;cases ho;exact hn vs hd
 refine wX (wpAny_frameOf_fun qd hl hf λh1 k1=>wX (wpAny_entryPlaceOf λpl hp=>?_));rw[qf]at k1;have Ie:h1.get? e=some oe:=(k1.2.1 e xO).trans he;unfold EntryCells.newEntry newFields;refine wX (wpAny_newObj_type (wpAny_setField (vZ _ Ie) hd hsz ?_) (hp.sizeOk5 _ _ _ _ _));have nT:h1.objs.size≠e:=Nat.ne_of_gt (vX Ie);refine h _ h1.objs.size _ _ (w9 (vZ _ Ie) hd 1 _) ?_ ((Heap.get?_update_other _ _ (Ne.symm nT)).trans (vY h1 rfl)) rfl ?_ ?_
 ·exact Nat.le_of_eq k1.1.symm
 ·first|(simp;done)|(rcases hp with rfl|⟨_,_,_,_,_,_,_,rfl⟩<;>simp)
 ·intro b o hb hn;have xM:b≠e:=λz=>hn (by rw[z];exact List.mem_singleton.mpr rfl);obtain⟨sl,z⟩:=k1.2.2 b o hb;exact⟨λq=>(Heap.get?_update_other _ _ (Ne.symm xM)).trans (vZ _ ((k1.2.1 b q).trans hb)),sl,(Heap.get?_update_other _ _ (Ne.symm xM)).trans (vZ _ z)⟩
structure u7 (h:Heap)(e T:Addr)(c:Value)(dx:Option Addr)(fl:Value):Prop where
 ob:∃o vs,h.get? e=some o/\o.cls=c/\o.dict=dx/\o.data=.fields vs/\vs[1]? = some (.ref T)
 tb:∃o ts,h.get? T=some o/\o.data=.fields ts/\ts[3]? = some fl
 ne:T≠e
theorem u7.land {T:Addr}{c:Value}{dx:Option Addr}{fl:Value}{fr:List Addr}{Q:Unit->Shared->Prop}(F:u7 s.heap e T c dx fl)
  (h:∀h',u7 h' e T c dx .none->Kp fr [T] s.heap h'->Q () { s with heap:=h' }):wpAny M A (setFlight (.ref e) none) Q E s:=by
 obtain⟨⟨o,vs,ho,hc,hx,hd,h1⟩,⟨oT,ts,hT,CV,h3⟩,ne⟩:=F;unfold setFlight;refine wX (wpAny_field ho hd h1 ?_);rw[if_pos (show(Value.ref T != Value.none)=true from by simp)];refine wpAny_setField hT CV (Array.getElem?_eq_some_iff.mp h3).1 (h _ ⟨⟨o,vs,(Heap.get?_update_other _ _ ne).trans ho,hc,hx,hd,h1⟩,⟨_,_,w9 hT CV 3 _,rfl,?_⟩,ne⟩ (Kp.other _ _));rw[Array.getElem?_setIfInBounds_self_of_lt (Array.getElem?_eq_some_iff.mp h3).1];rfl
theorem qU {dx:Option Addr}{Q:Unit->Shared->Prop}(qd:A.frames=some (env::outer))(hl:s.heap.FunFrames base (env::outer))(hf:env.frame=some L)
  (he:s.heap.get? e=some oe) (hd:oe.data=.fields vs) (h1:vs[1]? = some .none) (hx:oe.dict=dx)
  (h:∀h' T,u7 h' e T oe.cls dx (rawInt L)->s.heap.objs.size<=T->Kp (L::outer.filterMap (·.frame)) [e] s.heap h'->Q () { s with heap:=h' }):wpAny M A (noteFrame (.ref e) env) Q E s:=by
 have hs:=(Array.getElem?_eq_some_iff.mp h1).1;unfold noteFrame;simp only[hf];refine wX (wpAny_field he hd h1 ?_);rw[if_neg (by decide)];refine wA qd hl hf he hd hs λh' T oT ts a1 a2 a3 a4 a5 a6=>h h' T ⟨⟨_,_,a1,rfl,hx,rfl,by rw[Array.getElem?_setIfInBounds_self_of_lt hs]⟩,⟨_,_,a3,a4,a5⟩,λz=>absurd (vX he) (by rw[←z];exact Nat.not_lt.mpr a2)⟩ a2 a6
theorem ub {T:Addr}{c:Value}{dx:Option Addr}{Q:Unit->Shared->Prop}(qd:A.frames=some (env::outer))(hl:s.heap.FunFrames base (env::outer))(hf:env.frame=some L)(F:u7 s.heap e T c dx .none)
  (h:∀h' T',u7 h' e T' c dx (rawInt L)->s.heap.objs.size<=T'->Kp (L::outer.filterMap (·.frame)) [e,T] s.heap h'->Q () { s with heap:=h' }):wpAny M A (noteFrame (.ref e) env) Q E s:=by
 obtain⟨⟨o,vs,ho,hc,hx,hd,h1⟩,⟨oT,ts,hT,CV,h3⟩,ne⟩:=F;have hs:=(Array.getElem?_eq_some_iff.mp h1).1;unfold noteFrame;simp only[hf];refine wX (wpAny_field ho hd h1 ?_);rw[if_pos (show(Value.ref T != Value.none)=true from by simp)];refine wX (wpAny_field hT CV h3 ?_);rw[if_neg (show ¬((Value.none == rawInt L)=true)from by simp[rawInt])];refine wX (wpAny_setField hT CV (Array.getElem?_eq_some_iff.mp h3).1 ?_);have kp:Kp (L::outer.filterMap (·.frame)) [T] s.heap (s.heap.update T (Obj.mapFields (·.setIfInBounds 3 Value.none))):=Kp.other _ _;have sS:(s.heap.update T (Obj.mapFields (·.setIfInBounds 3 Value.none))).FunFrames base (env::outer):=hl.of_keeps λb o' hb hn=>by
  obtain⟨_,sl,z⟩:=kp b o' hb λz=>by rw[uT z,hT]at hb;cases hb;exact hn ts CV
  exact⟨_,z,rfl⟩
 refine wA qd sS hf ((Heap.get?_update_other _ _ ne).trans ho) hd hs λh' T' oT' ts' a1 a2 a3 a4 a5 a6=>?_;have fT:s.heap.objs.size<=T':=vR (Nat.le_of_eq (Heap.size_update s.heap T _).symm) a2;refine h h' T' ⟨⟨_,_,a1,hc,hx,rfl,by rw[Array.getElem?_setIfInBounds_self_of_lt hs]⟩,⟨_,_,a3,a4,a5⟩,λz=>absurd (vX ho) (by rw[←z];exact Nat.not_lt.mpr fT)⟩ fT ?_;exact(kp.more λb _ _ z=>mZ _ z).trans (a6.more λb _ _ z=>by rw[uT z];exact mX)
end
end EX
namespace EX
open PySem PySem.Spec PyProof.Rows L2
open PySem.W (Frag findIn mroIn keepIn isFn)
noncomputable def yT (C t0:Addr)(d:Option Addr):Obj:={ cls:=.ref C,dict:=d,data:=.fields #[.ref t0,.none,.none,.none,.bool false,.none] }
noncomputable def XN (e C t0:Addr)(d:Option Addr):HO:=.ext λh=>h.get? e=some (yT C t0 d)
noncomputable def XO (e C:Addr)(d:Option Addr):HO:=.ext λh=>∃o vs,h.get? e=some o/\o.cls=.ref C/\o.dict=d/\o.data=.fields vs
theorem As {P:Program}{w:World}{H:Hp}{h:Heap}{e C t0:Addr}{d:Option Addr}(x:h.get? e=some (yT C t0 d)):bD P w H h e (XN e C t0 d):=⟨x,⟨_,x⟩,λ_ _ p k=>k _ p⟩
theorem wB {P:Program}{w:World}{H:Hp}{h:Heap}{e C t0:Addr}{d:Option Addr}(x:bD P w H h e (XN e C t0 d)):h.get? e=some (yT C t0 d):=And.left x
theorem Ef {P:Program}{w:World}{H:Hp}{h:Heap}{e C:Addr}{d:Option Addr}(x:∃o vs,h.get? e=some o/\o.cls=.ref C/\o.dict=d/\o.data=.fields vs):bD P w H h e (XO e C d) :=
 ⟨x,let ⟨o,_,q,_⟩:=x;⟨o,q⟩,λ_ _ ⟨o,vs,q,r⟩ k=>⟨o,vs,k _ q,r⟩⟩
theorem Au {P:Program}{w:World}{H:Hp}{h:Heap}{e C:Addr}{d:Option Addr}(x:bD P w H h e (XO e C d)):∃o vs,h.get? e=some o/\o.cls=.ref C/\o.dict=d/\o.data=.fields vs:=And.left x
structure Ec (K:Frag)(C:Addr):Prop where
 ob:∃nm q N bs bm sn sub ab col dd k0 k1 k2 k3 k5,K.lookup C=some (excClassObj nm q C N bs bm true sn sub ab col dd k0 k1 k2 k3 k5 "ValueError.__new__")/\(PySem.W.tailIn K BJ bm=true/\bm.contains (.type "BaseException")=true)/\∀self:Value,refuseLoop self "__setattr__" bm=pure ()
 kp:keepIn K (.ref C)=true
 st:findIn K (.ref C) "__setattr__" = some (some (.builtin "object.__setattr__"))
 bo:mroIn K C (.type "object")=some true
section
variable {X:Cx}{C fI:Addr}{ac:List (Addr×Obj)}{σ:L2.St}{H:Hp}{s:Shared}
theorem yU {A:Around}{E:Value->Shared->Prop}{e t0:Addr}{name:Str}{v:V}{u:Value}{Q:Unit->Shared->Prop}(c:Ec X.K C)(xG:findIn X.K (.ref C) name=some none)(I:Inv X ac σ H s)(he:H e=some (XN e C t0 none))(rv:aI v u)
  (h:∀s',Inv X ac σ (upd (upd H s.heap.objs.size (.xd [(name,v)])) e (XN e C t0 (some s.heap.objs.size))) s'->Q () s'):wpAny (model X.prog X.w) A (setAttr (.ref e) name u) Q E s:=by
 obtain⟨nm,q,N,bs,bm,sn,sub,ab,col,dd,k0,k1,k2,k3,k5,hC,_,hp⟩:=c.ob;have xe:=wB (I.hok e _ he);obtain⟨hh,g,d,t,os⟩:=s;refine yQ (o:=yT C t0 none) I.kIn hp c.bo (I.kIn _ _ hC) c.st xG xe rfl (λ_ z=>nomatch z) rfl λh' zL a1 a2 a3=>h _ ?_;have fH:e<hh.objs.size:=vX xe;have M4:hh.objs.size≠e:=Nat.ne_of_gt fH;have hf:H hh.objs.size=none:=I.hok.fresh (vT _);refine I.step (g':=g) (d':=d) (t':=zL) (ch:=[]) (λ_ z=>nomatch z) (λb o _ _ _ q n=>a3 b o (λz=>by rw[z,he]at n;cases n) q) (λb o _ _ _ q n=>⟨o.slots,a3 b o (λz=>by rw[z,he]at n;cases n) q⟩) (λb o _ q n=>?_) (λb o _ q=>?_) (λb xs q=>?_) (λb o' u' q=>?_) (λb q' q=>?_) (λm hm=>?_) ?_ I.bare
 ·rw[au (λz=>by rw[z,he]at n;cases n),au (vS (vX q))];exact n
 ·by_cases z:b=e
  ·rw[z];exact⟨_,a1⟩
  ·exact⟨o,a3 b o z q⟩
 ·rw[au (λz=>by rw[z,he]at q;cases q),au (aP q hf)];exact q
 ·rw[au (λz=>by rw[z,he]at q;cases q),au (aP q hf)];exact q
 ·rw[au (λz=>by rw[z,he]at q;cases q),au (aP q hf)];exact q
 ·obtain⟨o,es,ep,ho,r⟩:=hm;exact⟨o,es,ep,a3 _ o (λz=>by have:=I.free;rw[z,he]at this;cases this) ho,r⟩
 ·intro b u' q;by_cases z:b=e
  ·subst z;rw[aw]at q;cases q;exact As a1
  ·rw[au z]at q;by_cases z2:b=hh.objs.size
   ·subst z2;rw[aw]at q;cases q;refine⟨_,a2,λf=>?_⟩;by_cases z3:f=name
    ·subst z3;simp[lF,rv]
    ·have:(name,v).1≠f:=λy=>z3 y.symm;simp[List.lookup,z3,lF,beq_eq_false_iff_ne.mpr z3]
   ·rw[au z2]at q;have JP:∀c:Addr,H c=some (.own b)->c≠e:=λc r z=>by rw[z,he]at r;cases r
    refine(I.hok b u' q).stay (λc v' hc r=>a3 c v' ?_ r) (λc r=>?_) (λc xs r=>?_) λc o xs r=>?_
    ·rcases hc with rfl|hc
     ·exact z
     ·exact JP c hc
    ·rw[au (JP c r),au (aP r hf)];exact r
    ·rw[au (λz=>by rw[z,he]at r;cases r),au (aP r hf)];exact r
    ·rw[au (λz=>by rw[z,he]at r;cases r),au (aP r hf)];exact r
end
open PySem.W (Frag findIn mroIn keepIn isFn)
section
variable {X:Cx}{C fI:Addr}{ac:List (Addr×Obj)}{σ:L2.St}{H:Hp}{s:Shared}
theorem ka {e:Addr}{φ:Heap->Prop}{u:HO}{Ts:List Addr}{h':Heap}(I:Inv X ac σ H s)(he:H e=some (.ext φ))(k:Kp (lC X.stack) (e::Ts) s.heap h')
  (hT:∀b∈Ts,H b=none/\X.s₀.heap.objs.size<=b/\b≠X.env.locals/\(∀x c,X.env.cells.lookup x=some c->c≠b)/\∀p∈X.pn++ac,p.1≠b) (new:bD X.prog X.w (upd H e u) h' e u):
  Inv X ac σ (upd H e u) { s with heap:=h' }:=by
 have ne:∀b,H b=none->b≠e:=λb n z=>by rw[z,he]at n;cases n
 have Cw:∀b v,H b=some v->(∀ψ,v≠.ext ψ)->b≠e:=λb v q n z=>by rw[z,he]at q;cases q;exact n _ rfl
 have nc:∀b,b≠e->b∉Ts->b∉e::Ts:=λb h1 h2 z=>(vP z).elim h1 h2;have nf:∀b,b≠X.env.locals->b∉X.fs->b∉lC X.stack:=λb h1 h2 z=>(vP (I.stkSub b z)).elim h1 h2;have LX:∃o,h'.get? e=some o:=by
  cases q:h'.get? e with
  |some o=>exact⟨o,rfl⟩
  |none=>
   exfalso;have:=new.lt;cases u with
   |ext ψ=>obtain⟨_,⟨o,z⟩,_⟩:=new;rw[q]at z;cases z
   |lst xs=>obtain⟨_,_,_,_,z⟩:=new;rw[q]at z;cases z
   |tup xs=>obtain⟨_,_,_,_,z,_⟩:=new;rw[q]at z;cases z
   |dK b9 ob=>have z:=And.left new;rw[q]at z;cases z
   |dT b9=>obtain⟨_,_,_,_,o,_,_,z,_⟩:=new;rw[q]at z;cases z
   |set S n=>obtain⟨o,_,_,_,z,_⟩:=new;rw[q]at z;cases z
   |ins C dx fs=>obtain⟨_,_,_,z,_⟩:=new;rw[q]at z;cases z
   |own y=>obtain⟨_,z⟩:=new;rw[q]at z;cases z
   |xd fs=>obtain⟨_,⟨_,_,_,z,_⟩,_⟩:=new;rw[q]at z;cases z
   |rng lo hi=>obtain⟨_,_,_,z⟩:=new;rw[q]at z;cases z
   |frz ob u=>obtain⟨z,_⟩:=new;rw[q]at z;cases z
   |tbl qq=>obtain⟨_,z,_⟩:=new;rw[q]at z;cases z
   |met f y=>have z:h'.get? e=some _:=new;rw[q]at z;cases z
 refine I.step (g':=s.gens) (d':=s.drawn) (t':=s.toks) (ch:=Ts) (λb hb=>let ⟨_,a2,a3,a4,a5⟩:=hT b hb;⟨.inr a2,a3,a4,a5⟩) (λb o hL hb hc q n=>(k b o q (nc b (ne b n) hc)).1 (nf b hL hb)) (λb o _ _ hc q n=>(k b o q (nc b (ne b n) hc)).2) (λb o _ q n=>by rw[au (ne b n)];exact n) (λb o hc q=>?_)
  (λb xs q=>by rw[au (Cw b _ q λ_ z=>nomatch z)];exact q) (λb o' u' q=>by rw[au (Cw b _ q λ_ z=>nomatch z)];exact q) (λb q' q=>by rw[au (Cw b _ q λ_ z=>nomatch z)];exact q) (λm hm=>?_) (λb v q=>?_) I.bare
 ·by_cases z:b=e
  ·rw[z];exact LX
  ·obtain⟨sl,y⟩:=(k b o q (nc b z hc)).2;exact⟨_,y⟩
 ·obtain⟨o,es,ep,ho,r⟩:=hm;obtain⟨sl,y⟩:=(k _ o ho (nc _ (ne _ I.free) λz=>(hT _ z).2.2.1 rfl)).2;exact⟨_,es,ep,y,r⟩
 ·by_cases z:b=e
  ·subst z;rw[aw]at q;cases q;exact new
  ·rw[au z]at q;have kb:∀c v',H c=some v'->c≠e->∀o,s.heap.get? c=some o->h'.get? c=some o:=λc v' r1 r2 o r3=>
    (k c o r3 (nc c r2 λy=>by have:=(hT c y).1;rw[r1]at this;cases this)).1 λy=>by have:=I.stkFree c y;rw[r1]at this;cases this
   refine(I.hok b v q).stay (λc v' hc r=>?_) (λc r=>by rw[au (Cw c _ r λ_ z=>nomatch z)];exact r) (λc xs r=>by rw[au (Cw c _ r λ_ z=>nomatch z)];exact r) λc o xs r=>by rw[au (Cw c _ r λ_ z=>nomatch z)];exact r
   rcases hc with rfl|hc
   ·exact kb c v q z v' r
   ·exact kb c _ hc (Cw c _ hc λ_ z=>nomatch z) v' r
def sx (P:Program)(w:World):xH:=λouter H s E ev s'=>∃e C dx T H',ev=.ref e/\s'.os=s.os/\AllBare s'.gens/\Un (lC outer) [] H H' s.heap s'.heap/\j4 P w H' s'.heap /\
 u7 s'.heap e T (.ref C) (some dx) .none/\H' e=some (XO e C (some dx))/\H' T=none/\s.heap.objs.size<=T/\s.heap.objs.size<=e/\E (.ref C) (some dx) H'
theorem u7.xo {P:Program}{w:World}{h:Heap}{e T C:Addr}{d:Option Addr}{fl:Value}(F:u7 h e T (.ref C) d fl):bD P w H h e (XO e C d) :=
 let ⟨o,vs,a,b,c,d,_⟩:=F.ob;Ef ⟨o,vs,a,b,c,d⟩
theorem Eg {P:Program}{w:World}{K:Frag}{mg:Str->Option Value}{base:Heap}{N:List Str}{qual:Str}{scope:Scope}{f:Addr}{cd:Value}{A:Around}{outer:List Env}{s₀:Shared}{H₀:Hp}{E:XK}{e t0 dx:Addr}
  (I:Inv (eC (sx P w) P w K mg base N qual scope f cd A outer s₀ H₀ E) ac σ H s) (he:H e=some (XN e C t0 (some dx))) (hs:s₀.heap.objs.size<=e) (hE:E (.ref C) (some dx) (upd H e (XO e C (some dx)))):
  (eC (sx P w) P w K mg base N qual scope f cd A outer s₀ H₀ E).xe (.ref e) s:=by
 have xe:=wB (I.hok e _ he);show wpAny _ _ (leaving _ (.ref e)) _ _ s;unfold leaving;refine wX (qU (base:=base) (L:=s₀.heap.objs.size) (dx:=some dx) I.ok.frames I.stack rfl xe rfl rfl rfl λh1 T F1 hT K1=>?_);refine u7.land (s:={ s with heap:=h1 }) (fr:=s₀.heap.objs.size::lC outer) F1 λh2 F2 K2=>?_;have kk:Kp (lC (eC (sx P w) P w K mg base N qual scope f cd A outer s₀ H₀ E).stack) (e::[]) s.heap h2:=by
  have e1:lC (eC (sx P w) P w K mg base N qual scope f cd A outer s₀ H₀ E).stack=s₀.heap.objs.size::outer.filterMap (·.frame):=rfl;rw[e1];refine((K1.more (ch':=[e,T]) λb _ _ z=>by rw[uT z];exact mX).trans (K2.more λb _ _ z=>mZ _ z)).more λb o q z=>?_;rcases vP z with z|z
  ·rw[z];exact mX
  ·rw[uT z]at q;exact absurd (vX q) (Nat.not_lt.mpr hT)
 have J:=ka (u:=XO e C (some dx)) (h':=h2) I he kk (λ_ z=>nomatch z) F2.xo;have fH:=vX xe;exact⟨e,C,dx,T,_,rfl,J.os,J.bare,J.base,J.hok,F2,aw,by rw[au (Nat.ne_of_gt (vQ fH hT))];exact I.hok.fresh hT,vR I.sz hT,hs,hE⟩
end
open PySem.W (Frag findIn mroIn keepIn isFn)
def fR (H:Hp)(e C t0 dx:Addr)(name:Str)(v:V):Hp:=upd (upd (upd H e (XN e C t0 none)) dx (.xd [(name,v)])) e (XN e C t0 (some dx))
theorem wC {H:Hp}{e C t0 dx:Addr}{name:Str}{v:V}:fR H e C t0 dx name v e=some (XN e C t0 (some dx)):=aw
theorem BK {H:Hp}{e C t0 dx:Addr}{name:Str}{v:V}(n:dx≠e):fR H e C t0 dx name v dx=some (.xd [(name,v)]):=by unfold fR;rw[au n,aw]
theorem BL {H:Hp}{e C t0 dx b:Addr}{name:Str}{v:V}(n:b≠e)(m:b≠dx):fR H e C t0 dx name v b=H b:=by unfold fR;rw[au n,au m,au n]
def CD (C:Addr)(name:Str):Sp:=λvs H Q _=>∃e t0 v,vs=[.ref e,v]/\H e=some (XN e C t0 none)/\∀dx,H dx=none->Q .non (upd (upd H dx (.xd [(name,v)])) e (XN e C t0 (some dx)))
section
variable {X:Cx}{C fI:Addr}{ac:List (Addr×Obj)}{σ:L2.St}{H:Hp}{s:Shared}{o value a:Expr}{name x:Str}{pos lR p cY:Pos}{ta tv:TE}
def Eh (C:Addr)(ta tv:TE)(name:Str):TS:=λD σ H=>tv σ H λy H1=>ta σ H1 λx H2=>∃e t0,x=.ref e/\H2 e=some (XN e C t0 none)/\∀dx,H2 dx=none->D.nx σ (upd (upd H2 dx (.xd [(name,y)])) e (XN e C t0 (some dx)))
theorem BM (c:Ec X.K C)(xG:findIn X.K (.ref C) name=some none)(ha:PE X o ta)(hv:PE X value tv)(hs:swapsWith value (some (.Attribute o name lR)) pos.line X.env=pure false):PS X (.Assign [.Attribute o name lR] value pos) (Eh C ta tv name):=by
 intro ac s σ H D I h;refine plainObj_wpAny_Assign_Attribute (bY (hv ac s σ H _ I h) λu s1 ⟨y,H1,I1,ry,q⟩=>bY (ha ac s1 σ H1 _ I1 q) λov s2 ⟨x,H2,I2,rx,e,t0,ex,ea,q2⟩=>?_) hs;subst ex;obtain rfl:ov=Value.ref e:=rx;exact yU c xG I2 ea ry λs3 I3=>⟨σ,_,I3,q2 _ (I2.hok.fresh (vT _))⟩
theorem yV {k:Nat}{fd:FuncData}{ps:List Str}{Q:VK}{v:V}{u:Value}(c:Ec X.K C)(hi:findIn X.K (.ref C) "__init__" = some (some (.ref fI)))(zy:isFn X.K (.ref fI)=true)
  (F:fg X.prog X.w X.K X.mg X.base kq k fI fd ps (CD C name)) (hr:cE (k+1) X.A) (hb:eB X.K fd ps []) (I:Inv X ac σ H s) (r:aI v u)
  (h:∀e dx t0,s.heap.objs.size<=e->H e=none->H dx=none->dx≠e->Q (.ref e) (fR H e C t0 dx name v)):wq X (call (.ref C) [u]) (EP X ac σ Q) X.xe s:=by
 obtain⟨nm,q,N,bs,bm,sn,sub,ab,col,dd,k0,k1,k2,k3,k5,hC,U,hp⟩:=c.ob;obtain⟨hh,g,d,t,os⟩:=s;obtain⟨oI,LY,LZ⟩:∃oI,X.K.lookup fI=some oI/\oI.cls=.type "function":=by
  have z:=beq_iff_eq.mp zy;unfold PySem.W.typeIn at z;cases q:X.K.lookup fI with
  |none=>simp[q]at z
  |some o=>simp[q]at z;exact⟨o,rfl,z⟩
 refine w5 I.kIn PySem.F.excBase_ValueError (PySem.W.tail_of_in I.kIn U.1) (I.kIn _ _ hC) hi (I.kIn _ _ LY) LZ λh' e hm hs=>?_;obtain⟨t0,he,_,_⟩:=hm.there;have I2:Inv X ac σ (upd H e (XN e C t0 none)) { (⟨hh,g,d,t,os⟩:Shared)with heap:=h',toks:=t }:=I.laid hm.keeps hs (As he);have r2:aT [V.ref e,v] [Value.ref e,u]:=.cons rfl (.cons r .nil);have hl:([Value.ref e,u]++[]).length=ps.length:=(F.len [.ref e,v] (upd H e (XN e C t0 none)) (λ_ _=>True) (λ_ _ _=>True) ⟨e,t0,v,rfl,aw,λ_ _=>trivial⟩);have xO:H e=none:=I.hok.fresh hs;have hq:CD C name [.ref e,v] (upd H e (XN e C t0 none)) (λw H2=>w=.non/\Q (.ref e) H2) (λ_ _ _=>False) :=
  ⟨e,t0,v,rfl,aw,λdx hx=>⟨rfl,by
   have nd:dx≠e:=λz=>by rw[z,aw]at hx;cases hx
   rw[au nd]at hx;exact h e dx t0 hs xO hx nd⟩⟩
 refine wpAny_call (codeAny_mono (F.run _ X.stack _ _ ⟨[Value.ref e,u],[]⟩ [Value.ref e,u] _ _ _ (hr.make C [u] []) (I2.env0.make C [u] []) (by have:=hb { (⟨hh,g,d,t,os⟩:Shared)with heap:=h',toks:=t } [Value.ref e,u] I2.kIn hl;rwa [uQ]at this) r2 hq) λr s' hq'=>?_);cases r with
 |error e=>exact False.elim hq'
 |ok fl=>
  cases fl with
  |ret u=>
   obtain⟨w,H',I3,rv,ev,q3⟩:=I2.after hq';subst ev;exact⟨rv,⟨V.ref e,H',I3,rfl,q3⟩⟩
  |next=>exact False.elim hq'
  |brk=>exact False.elim hq'
  |cont=>exact False.elim hq'
def BN (ta:TE)(R:V->Hp->Prop):TS:=λ_ σ H=>km ta tq σ H λvs H1=>∃v,vs=[v]/\R v H1
theorem wD {k:Nat}{fd:FuncData}{ps:List Str}{R:V->Hp->Prop}(c:Ec X.K C)(hi:findIn X.K (.ref C) "__init__" = some (some (.ref fI)))(zy:isFn X.K (.ref fI)=true)
  (F:fg X.prog X.w X.K X.mg X.base kq k fI fd ps (CD C name)) (hr:cE (k+1) X.A) (hb:eB X.K fd ps []) (hg:Gl X x) (hm:X.mg x=some (.ref C)) (ha:PE X a ta)
  (Ig:∀ac s σ H e t0 dx v H0,Inv X ac σ H s->H=fR H0 e C t0 dx name v->X.s₀.heap.objs.size<=e->H0 e=none->H0 dx=none->dx≠e->R v H0->X.xe (.ref e) s)
  (ly:(x == ("__debug__" : Str))=false:=by decide) (he:starEach [a] X.env=(false,eval a X.env)::starEach [] X.env:=by rfl):
  PS X (.Raise (some (.Call (.Name x p) [a] [] cY)) none pos) (BN ta R):=by
 intro ac s σ H D I h;obtain⟨nm,q,N,bs,bm,sn,sub,ab,col,dd,k0,k1,k2,k3,k5,hC,U,hp⟩:=c.ob;rw[arm_exec_Raise];refine wX (wpAny_standAt ?_);refine qT (C:=C) (nm:=nm) (q:=q) (N:=N) (bs:=bs) (hdct:=true) (sn:=sn) (sub:=sub) (ab:=ab) (col:=col) (dd:=dd) (k0:=k0) (k1:=k1) (k2:=k2) (k3:=k3) (k5:=k5) (newId:="ValueError.__new__") U.2 hr.hd (wX ?_);refine wpAny_Call_Name_kw (iF I hg hm ?_ ly);have EZ:PA X [a] (km ta tq):=bJ ha cT he;refine PySem.W.callWith_K (h₀:=X.base) I.ok.mod.kin c.kp (bY (EZ cY ac s σ H (λvs H1=>∃v,vs=[v]/\R v H1) I ?_) λus s1 ⟨vs,H1,I1,r,v,ev,q⟩=>⟨I1.kIn,?_⟩) he rfl
 ·exact h
 ·subst ev;obtain⟨u1,rfl,r1⟩:∃u1,us=[u1]/\L2.aI v u1:=by cases r with|cons a b=>cases b with|nil=>exact⟨_,rfl,a⟩
  refine bY (yV (Q:=λw H2=>∃e dx t0,w=.ref e/\s1.heap.objs.size<=e/\H1 e=none/\H1 dx=none/\dx≠e/\H2=fR H1 e C t0 dx name v) c hi zy F hr hb I1 r1 λe dx t0 a1 a2 a3 a4=>⟨e,dx,t0,rfl,a1,a2,a3,a4,rfl⟩) λu s2 ⟨w,H2,I2,EC,e,dx,t0,ew,a1,a2,a3,a4,eH⟩=>?_;subst ew;obtain rfl:u=Value.ref e:=EC;refine wX (wpAny_standAt (wY ?_));have Fo:H2 e=some (XN e C t0 (some dx)):=by rw[eH];exact wC
  exact⟨e,t0,some dx,rfl,I2.kIn _ _ hC,wB (I2.hok e _ Fo),Ig ac s2 σ H2 e t0 dx v H1 I2 eH (vR I1.sz a1) a2 a3 a4 q⟩
end
open PySem.W (Frag findIn mroIn keepIn isFn)
theorem qV {H:Hp}{a:Addr}{o:HO}(h:H a=some o):upd H a o=H:=by
 funext b;unfold upd;split
 ·rename_i z;rw[z,h]
 ·rfl
section
variable {X:Cx}{C:Addr}{ac:List (Addr×Obj)}{σ:L2.St}{H:Hp}{s:Shared}
theorem wE {i:Nat}{n:Str}{m:Str->Option Value}{v:Option Value}{h':Heap}{t:Nat}(I:Inv X ac σ H s)(hN:X.N.Nodup)(hi:X.N[i]? = some n)(hk:X.env.kindOf n=some .local)
  (hm:s.heap.Ns X.env.locals m) (CK:h'.Ns X.env.locals λx=>if x=n then v else m x) (hs:Heap.SameBut X.env.locals s.heap h'):Inv X ac (σ.set i none) H { s with heap:=h',toks:=t }:=by
 obtain⟨m0,hn,hl⟩:=I.loc;have Ma:∀x,m x=m0 x:=λx=>by
  obtain⟨o,es,ep,ho,hd,M5,e1⟩:=hm;obtain⟨o',oh,FM,og,FL,M6,e2⟩:=hn;rw[ho]at og;cases og;rw[hd]at FL;cases FL;rw[←e1,←e2]
 have CH:∀b o,X.s₀.heap.get? b=some o->b≠X.env.locals:=λb o e=>vS (vQ (vX e) I.ok.above);refine⟨I.ok,I.os,I.bare,⟨λb o e q hb hx=>?_,λb o e q hb hx=>?_,I.base.free,λb o e hx=>?_,I.base.tups,I.base.frzs,I.base.tbls⟩,⟨_,CK,λj y v' e1 e2 e3=>?_⟩,λy c e=>?_,I.free,I.freeC,λp hp=>?_,λb u e=>?_,by simpa using I.len⟩
 ·exact(hs.2 b (CH b o e)).trans (I.base.keep b o e q hb hx)
 ·obtain⟨sl,z⟩:=I.base.slot b o e q hb hx;exact⟨sl,(hs.2 b (CH b o e)).trans z⟩
 ·obtain⟨o',z⟩:=I.base.there b o e hx;exact⟨o',(hs.2 b (CH b o e)).trans z⟩
 ·have hj:i≠j:=λz=>by
   subst z;rw[List.getElem?_set_self (by rw[I.len];exact(vV hi).1)]at e2;cases e2
  rw[vB hj]at e2;obtain⟨u,r,q⟩:=hl j y v' e1 e2 e3;refine⟨u,r,?_⟩;rcases q with⟨k,e⟩|⟨k,c,e,z⟩
  ·refine .inl ⟨k,?_⟩;have:y≠n:=λz=>hj (iE hN hi (z ▸ e1));show(if y=n then v else m y)=some u;rw[if_neg this,Ma];exact e
  ·exact .inr ⟨k,c,e,z.sameBut hs (I.cne y c e)⟩
 ·obtain⟨w',z⟩:=I.cell y c e;exact⟨w',z.sameBut hs (I.cne y c e)⟩
 ·obtain⟨e,q,ne,nf,d⟩:=I.pin p hp;exact⟨(hs.2 p.1 ne).trans e,q,ne,nf,d⟩
 ·refine(I.hok b u e).stay (λc v' hc q=>(hs.2 c ?_).trans q) (λ_ q=>q) (λ_ _ q=>q) λ_ _ _ q=>q;have hf:=I.free;rintro rfl;rcases hc with rfl|hc
  ·rw[hf]at e;cases e
  ·rw[hf]at hc;cases hc
noncomputable abbrev yW (X:Cx)(A:Around)(E:Value->Shared->Prop):Cx:={ X with A:=A,calm:=false,xe:=E }
theorem wF {A:Around}{E:Value->Shared->Prop}(I:Inv X ac σ H s)(hA:A.frames=X.A.frames):Inv (yW X A E) ac σ H s :=
 ⟨⟨I.ok.mod,I.ok.kind,I.ok.glob,I.ok.blt,I.ok.above,I.ok.inj,I.ok.has,I.ok.cab,(λz=>nomatch z),hA.trans I.ok.frames,I.ok.stk,I.ok.exf,I.ok.bs,I.ok.bsz,I.ok.noex,I.ok.exfs,I.ok.funs,I.ok.frf⟩,I.os,I.bare,I.base,I.loc,I.cell,I.free,I.freeC,I.pin,I.hok,I.len⟩
theorem wG {A:Around}{E:Value->Shared->Prop}(ok:X.Ok)(I:Inv (yW X A E) ac σ H s):Inv X ac σ H s :=
 ⟨ok,I.os,I.bare,I.base,I.loc,I.cell,I.free,I.freeC,I.pin,I.hok,I.len⟩
theorem sy {e dx:Addr}{fs:List (Str×V)}(hok:j4 X.prog X.w H s.heap)(he:H e=some (XO e C (some dx)))(hd:H dx=some (.xd fs)):∃ox od,PySem.W.InstAt s.heap e ox C (some od)/\ox.dict=some dx:=by
 obtain⟨o,vs,a1,a2,a3,a4⟩:=Au (hok e _ he);obtain⟨mA,⟨od,es,ep,b1,_⟩,_⟩:=hok dx _ hd;exact⟨o,od,⟨a1,a2,by unfold PySem.W.notCls;rw[a4],by rw[a3];exact b1⟩,a3⟩
end
open PySem.W (Frag findIn mroIn keepIn isFn)
section
variable {X:Cx}{C D:Addr}{ac:List (Addr×Obj)}{σ:L2.St}{H:Hp}{s:Shared}
theorem BO {i j:Nat}{n y cx:Str}{p1 p2 p3 p4 hp:Pos}{Dn:Ends}{s':Shared}{E:XK}{ev:Value}(jh:X.stack=X.env::X.outer)(Gk:X.env.frame=some X.env.locals)(hN:X.N.Nodup)
  (hj:X.N[j]? = some n) (hn:X.env.kindOf n=some .local) (hi:X.N[i]? = some y) (hy:X.env.kindOf y=some .local) (hg:Gl X cx) (hm:X.mg cx=some (.ref D)) (hx:PySem.W.exmOne X.K (.ref C) (.ref D)=some true)
  (I:Inv X ac σ H s) (h:sx X.prog X.w X.stack H s E ev s')
  (hE:∀c d H',E c d H'->∃dx fs,c=.ref C/\d=some dx/\H' dx=some (.xd fs)/\∀e,H' e=some (XO e C (some dx))->Dn.nx (((σ.set j (some (.ref e))).set i (some (.ref e))).set j none) H')
  (Fl:(n == ("__debug__" : Str))=false:=by decide) (AF:(n == ("__classdict__" : Str))=false:=by decide) (gt:(cx == ("__debug__" : Str))=false:=by decide)
  (xz:swapsWith (.Name n p3) (some (.Name y p2)) p4.line X.env=pure false:=by rfl):
  wq X (noteFrame ev X.env) (λ_ s₂=>wq X (setFlight ev none) (λ_ s₃=>wq X (handleBy ev X.env [.ExceptHandler (some (.Name cx p1)) (some n) [.Assign [.Name y p2] (.Name n p3) p4] hp]) (SP X ac Dn) X.xe s₃) X.xe s₂) X.xe s':=by
 obtain⟨e,C',dx,T,H',rfl,os,bare,un,hok,JQ,he,hT,sT,se,q⟩:=h;obtain⟨M7,fs,c1,c2,hd,q⟩:=hE _ _ _ q;cases c1;cases c2
 have J:Inv X ac σ H' s':=I.call' (ch:=[]) os un hok bare λ_ z=>nomatch z;have JR:∀b,s.heap.objs.size<=b->X.s₀.heap.objs.size<=b/\b≠X.env.locals/\(∀x c,X.env.cells.lookup x=some c->c≠b)/\∀p∈X.pn++ac,p.1≠b:=λb hb=>
  ⟨vR I.sz hb,Nat.ne_of_gt (vQ I.lt hb),λx c e z=>by obtain⟨v,o,ho,_⟩:=I.cell x c e;exact absurd (vX ho) (by rw[z];exact Nat.not_lt.mpr hb),λp hp z=>absurd (vX (I.pin p hp).1) (by rw[z];exact Nat.not_lt.mpr hb)⟩
 have Mb:lC X.stack=X.env.locals::X.outer.filterMap (·.frame):=by rw[jh];unfold lC;rw[List.filterMap_cons,Gk]
 have Mc:s.heap.objs.size<=s'.heap.objs.size:=by
  rcases Nat.lt_or_ge s'.heap.objs.size s.heap.objs.size with z|z
  ·obtain⟨o,_,a,_⟩:=JQ.ob;exact absurd (vX a) (Nat.not_lt.mpr (vR (Nat.le_of_lt z) se))
  ·exact z
 refine ub (base:=X.base) (outer:=X.outer) (L:=X.env.locals) (by rw[←jh];exact J.ok.frames) (by rw[←jh];exact J.stack) Gk JQ λh1 T1 F1 hT1 K1=>?_;have J1:Inv X ac σ H' { s' with heap:=h1 }:=by
  have:=ka (u:=XO e C (some dx)) (Ts:=[T]) (h':=h1) J he (by rw[Mb];exact K1) (λb hb=>by rw[uT hb];exact⟨hT,JR T sT⟩) F1.xo;rwa [qV he]at this
 have Fp:H' T1=none:=hok.fresh hT1;have Fq:=JR T1 (vR Mc hT1);refine u7.land (s:={ s' with heap:=h1 }) (fr:=lC X.stack) F1 λh2 F2 K2=>?_;have J2:Inv X ac σ H' { s' with heap:=h2 }:=by
  have:=ka (u:=XO e C (some dx)) (Ts:=[T1]) (h':=h2) J1 he (K2.more λb _ _ z=>mZ _ z) (λb hb=>by rw[uT hb];exact⟨Fp,Fq⟩) F2.xo;rwa [qV he]at this
 refine wpAny_handleBy_cons (codeAny_handlers_test ?_) (λz=>nomatch z);refine iF (X:=yW X (X.A.mark (some (.ref e))) X.xe) (wF J2 rfl) hg hm ?_ gt;obtain⟨ox,od,IA,M8⟩:=sy (s:={ s' with heap:=h2 }) J2.hok he hd;refine(PySem.W.exm_one J2.kIn IA.type hx).here ?_;show codeAny _ _ _ _ _;refine codeAny_handlers_suite_as ?_;refine u7.land (s:={ s' with heap:=h2 }) (fr:=lC X.stack) F2 λh3 F3 K3=>?_;have J3:Inv X ac σ H' { s' with heap:=h3 }:=by
  have:=ka (u:=XO e C (some dx)) (Ts:=[T1]) (h':=h3) J2 he (K3.more λb _ _ z=>mZ _ z) (λb hb=>by rw[uT hb];exact⟨Fp,Fq⟩) F3.xo;rwa [qV he]at this
 refine kh J3 hN hj (.inl hn) (show L2.aI (.ref e) (.ref e)from rfl) (λs4 J4=>?_) (.inr hn);refine wpAny_execs_cons (wpAny_mono (mQ (X:=yW X (X.A.mark (some (.ref e))) _) (i:=i) hN hi (.inl hy) (ci (i:=j) hj (.inl hn) Fl AF) xz (.inr hy) ac s4 _ H' { nx:=λσ' H2=>σ'=(σ.set j (some (.ref e))).set i (some (.ref e))/\H2=H',rt:=λ_ _=>False } (wF J4 rfl) ?_) (λf s5 h5=>?_) λ_ _ z=>z)
 ·exact⟨.ref e,List.getElem?_set_self (by rw[I.len];exact(vV hj).1),rfl,rfl⟩
 ·cases f with
  |next=>
   obtain⟨σ5,H5,J5,rfl,rfl⟩:=h5;have J5:=wG I.ok J5;refine wpAny_execs_nil ?_;obtain⟨m,JU,_⟩:=id J5.loc;refine wpAny_nameGoes_keeps hn JU (by rw[I.ok.kind];rfl) λh6 v hn6 hs6=>?_;exact⟨_,_,wE J5 hN hj hn JU hn6 hs6,q e he⟩
  |ret u=>obtain⟨_,_,_,_,_,z⟩:=h5;exact z.elim
  |brk=>obtain⟨_,_,_,z⟩:=h5;exact z.elim
  |cont=>obtain⟨_,_,_,z⟩:=h5;exact z.elim
end
end EX
namespace DL
open PySem PySem.Spec PyProof.Rows L2 EX
open PySem.W (Frag findIn mroIn keepIn isFn)
def IJ (K:Frag)(g:FS)(RT:VK):TS:=λE σ H=>mj K g { E with rt:=RT } σ H
abbrev JX (X:Cx)(RT:VK)(st:Stmt)(g:FS):Prop:=PS X st (IJ X.K g RT)
abbrev yX (X:Cx)(RT:VK)(st:List Stmt)(g:FS):Prop:=ki X st (IJ X.K g RT)
theorem yY {K:Frag}{f:FE}{σ:L2.St}{H:Hp}{Q Q':VK}(h:tD K f σ H Q)(k:∀v H',Q v H'->Q' v H'):tD K f σ H Q' :=
 let ⟨B,ρ,d,b,s,r,e,q⟩:=h;⟨B,ρ,d,b,s,r,e,λv H' N x i f=>k v H' (q v H' N x i f)⟩
def RE (E:XK)(C:Addr)(name:Str):VK:=λv H0=>∀e dx t0,H0 e=none->H0 dx=none->dx≠e->E (.ref C) (some dx) (upd (fR H0 e C t0 dx name v) e (XO e C (some dx)))
section
variable {X:Cx}{RT:VK}{st:Stmt}{aA a b body:List Stmt}{g h:FS}{c e bS tg:Expr}{pos p cY:Pos}{C fI:Addr}{name x:Str}
theorem wH:yX X RT [] aU:=ki.to iH λE _ _ q=>o6 (E:={ E with rt:=RT }) q
theorem nN (h1:JX X RT st g)(h2:yX X RT aA h):yX X RT (st::aA) (aD g h):=ki.to (eA h1 h2) λE _ _ q=>rK (E:={ E with rt:=RT }) q
theorem nO (h1:JX X RT st g):yX X RT [st] g:=dF h1
theorem Av {fc:FT}(hc:JT X c fc)(ha:yX X RT a g)(hb:yX X RT b h):JX X RT (.If c a b pos) (dj fc g h):=PS.to (lV hc ha hb) λE _ _ q=>vf (E:={ E with rt:=RT }) q
theorem BP {f:FE}{i:Nat}(hN:X.N.Nodup)(he:JE X e f)(hi:X.N[i]? = some x:=by rfl)(hx:zQ X.env.scope x:=by first|exact Or.inl rfl|exact Or.inr rfl)(hs:swapsWith e (some (.Name x p)) pos.line X.env=pure false:=by rfl)
  (hf:X.fn x=true∨X.env.scope.names.lookup x=some .local:=by first|exact .inl rfl|exact .inr rfl):JX X RT (.Assign [.Name x p] e pos) (bt i f):=PS.to (mQ hN hi hx he hs hf) λE _ _ q=>nj (E:={ E with rt:=RT }) q
theorem yZ (hp:PassesOwn (model X.prog X.w) X.A X.env X.xe)(hc:X.calm=true)(hi:PI X tg bS (C6 X.K fi))(hg:PG X tg t)(ht:yy X.K jN t)(hb:yX X RT body g)
  (hs:∀x,foldedSetIterable bS X.env x=pure x:=by intro _;rfl):JX X RT (.For tg bS body [] pos) (fO fi jN g):=PS.to (qm hp hc hi hg hb hs) λE _ _ q=>o8 (E:={ E with rt:=RT }) ht q
theorem wI {st:Stmt}:JX X RT st jq:=λac s σ H E I q=>by
 obtain⟨_,_,_,_,_,e,_⟩:=q;cases e
theorem p0 {k:Nat}{fd:FuncData}{ps:List Str}{f:FE}{R:VK}(c:Ec X.K C)(hi:findIn X.K (.ref C) "__init__" = some (some (.ref fI)))(zy:isFn X.K (.ref fI)=true)
  (F:fg X.prog X.w X.K X.mg X.base kq k fI fd ps (CD C name)) (hr:cE (k+1) X.A) (hb:eB X.K fd ps []) (hm:X.mg x=some (.ref C)) (ha:JE X e f)
  (Ig:∀ac s σ H e t0 dx v H0,Inv X ac σ H s->H=fR H0 e C t0 dx name v->X.s₀.heap.objs.size<=e->H0 e=none->H0 dx=none->dx≠e->R v H0->X.xe (.ref e) s)
  (hg:Gl X x:=by rfl) (ly:(x == ("__debug__" : Str))=false:=by decide) (he:starEach [e] X.env=(false,eval e X.env)::starEach [] X.env:=by rfl):
  JX X R (.Raise (some (.Call (.Name x p) [e] [] cY)) none pos) (aX f) :=
 PS.to (wD c hi zy F hr hb hg hm ha Ig ly he) λE _ _ q=>yY (rL (E:={ E with rt:=R }) q) λv _ z=>⟨v,rfl,z⟩
end
def FI (K:Frag)(C:Addr)(name:Str)(f:List D->OB):Sp:=λvs H _ E=>∃(B:Hp)(ds:List D)(d:D)(b:Bool),(aO B H/\Tb K B)/\IsL K B vs ds/\f ds=some (d,b)/\Fin K B H d b (RE E C name)
@[simp] noncomputable def jA (g:FS)(n k:Nat):List D->OB:=λds=>if ds.length=n then
 match g (ds.map (λd=>some (d,false))++List.replicate k none) with
 |some (.rt d b)=>some (d,b)
 |_=>none
 else none
section
variable {P:Program}{w:World}{K:Frag}{mg:Str->Option Value}{base:Heap}
theorem GS {x qual:Str}{st:Stmt}{f:Addr}{fd:FuncData}{N ps:List Str}{k:Nat}{g:FS}{C:Addr}{name:Str}(F:xN K x qual st f fd)(S:FnScope N ps (ar st))
  (hb:∀(bM:Value)(A:Around)(outer:List PySem.Env)(s:Shared)(H:Hp)(E:XK),cE k (A.deeper (envOfC qual (ar st) s.heap.objs.size f bM))->yX (eC (sx P w) P w K mg base N qual (ar st) f bM A outer s H E) (RE E C name) (ba st) g):
  fg P w K mg base (sx P w) (k+1) f fd ps (FI K C name (jA g ps.length (N.length - ps.length))):=by
 have len:∀vs H Q E,FI K C name (jA g ps.length (N.length - ps.length)) vs H Q E->vs.length=ps.length:=λvs H Q E h=>by
  obtain⟨B,ds,d,b,sB,i,e,q⟩:=h;unfold jA at e;split at e
  ·rename_i hl;rw[i.length];exact hl
  ·cases e
 obtain⟨oc,od,kV,doc,pm,an,bM,ct,jz,rfl,lk,gt⟩:=F.ex;refine rF lk gt S len λA outer s H vs Q E hr h=>⟨_,hb bM A outer s H E hr,?_⟩;have bT:=len vs H Q E h;obtain⟨B,ds,d,b,sB,i,e,q⟩:=h;unfold jA at e;rw[if_pos (by rw[←i.length];exact bT)]at e;have s0:=kA (N:=N) sB.1 sB.2 i;rw[bT]at s0;split at e
 ·rename_i d' b' eg;cases e
  exact⟨B,H,_,_,⟨B,s0⟩,eg,λv H' N' x' i' f'=>q v H' N' x' i' f'⟩
 ·cases e
theorem p5 {N:List Str}{qual:Str}{scope:Scope}{f:Addr}{cd:Value}{A:Around}{outer:List PySem.Env}{s₀:Shared}{H₀:Hp}{E:XK}{C:Addr}{name:Str}:
  ∀ac s σ H e t0 dx v H0,Inv (eC (sx P w) P w K mg base N qual scope f cd A outer s₀ H₀ E) ac σ H s->H=fR H0 e C t0 dx name v->(eC (sx P w) P w K mg base N qual scope f cd A outer s₀ H₀ E).s₀.heap.objs.size<=e->H0 e=none->H0 dx=none->dx≠e->RE E C name v H0 ->
   (eC (sx P w) P w K mg base N qual scope f cd A outer s₀ H₀ E).xe (.ref e) s:=λac s σ H e t0 dx v H0 I eH hs h1 h2 h3 q=>by
 subst eH;exact Eg I wC hs (q e dx t0 h1 h2 h3)
theorem Ej {N:List Str}{qual:Str}{scope:Scope}{f:Addr}{cd:Value}{A:Around}{outer:List PySem.Env}{s₀:Shared}{H₀:Hp}{E:XK}:PassesOwn (model P w) (A.deeper (envOfC qual scope s₀.heap.objs.size f cd)) (envOfC qual scope s₀.heap.objs.size f cd) (eC (sx P w) P w K mg base N qual scope f cd A outer s₀ H₀ E).xe:=PassesOwn.leaving
end
end DL
namespace EX
open PySem PySem.Spec PyProof.Rows L2
open PySem.W (Frag findIn mroIn keepIn isFn)
section
variable {X:Cx}{C D fa:Addr}{ac:List (Addr×Obj)}{σ:L2.St}{H:Hp}{s:Shared}
def Ek (sp:Sp)(t:TA)(C:Addr)(i j:Nat):TS:=λDn σ H=>t σ H λvs H1=>sp vs H1 (λ_ _=>False) λc d H'=>∃dx fs,c=.ref C/\d=some dx/\H' dx=some (.xd fs) /\
 ∀e,H' e=some (XO e C (some dx))->Dn.nx (((σ.set j (some (.ref e))).set i (some (.ref e))).set j none) H'
theorem wJ {k i j:Nat}{fd:FuncData}{ps:List Str}{sp:Sp}{t:TA}{a:Expr}{x n y cx:Str}{p p1 p2 p3 p4 hp cY ep pos:Pos}(F:fg X.prog X.w X.K X.mg X.base (sx X.prog X.w) k fa fd ps sp)(hr:cE k X.A)(hg:Gl X x)(hm:X.mg x=some (.ref fa))(hk:keepIn X.K (.ref fa)=true)
  (hb:eB X.K fd ps []) (ha:PA X.nox [a] t) (jh:X.stack=X.env::X.outer) (Gk:X.env.frame=some X.env.locals) (hN:X.N.Nodup)
  (hj:X.N[j]? = some n) (hn:X.env.kindOf n=some .local) (hi:X.N[i]? = some y) (hy:X.env.kindOf y=some .local) (Md:Gl X cx) (Me:X.mg cx=some (.ref D)) (hx:PySem.W.exmOne X.K (.ref C) (.ref D)=some true)
  (ly:(x == ("__debug__" : Str))=false:=by decide) (he:starEach [a] X.env=(false,eval a X.env)::starEach [] X.env:=by rfl)
  (Fl:(n == ("__debug__" : Str))=false:=by decide) (AF:(n == ("__classdict__" : Str))=false:=by decide) (gt:(cx == ("__debug__" : Str))=false:=by decide)
  (xz:swapsWith (.Name n p3) (some (.Name y p2)) p4.line X.env=pure false:=by rfl) (zJ:interactive X.env=false:=by rfl) (Mf:swapsWith (.Call (.Name x p) [a] [] cY) none ep.line X.env=pure false:=by rfl):
  PS X (.Try [.Expr (.Call (.Name x p) [a] [] cY) ep] [.ExceptHandler (some (.Name cx p1)) (some n) [.Assign [.Name y p2] (.Name n p3) p4] hp] [] [] pos) (Ek sp t C i j):=by
 intro ac s σ H Dn I h;refine wpAny_Try_except (wpAny_execs_cons (wpAny_Expr ?_ zJ Mf));refine wpAny_Call_Name_kw (iF I hg hm ?_ ly);refine PySem.W.callWith_K (h₀:=X.base) I.ok.mod.kin hk (wpAny_mono (ha cY ac s σ H _ (I.wish _) h) (λus s1 ⟨vs,H1,I1,r,q⟩=>⟨I1.kIn,?_⟩) λ_ _ z=>False.elim z) he rfl;have I1:Inv X ac σ H1 s1:=I1.unwish;have hl:us.length=ps.length:=by rw[←r.length];exact F.len _ _ _ _ q
 refine wpAny_call (codeAny_mono (F.run X.A X.stack s1 H1 ⟨us,[]⟩ us vs _ _ hr I1.env0 (by have:=hb s1 us I1.kIn (by rw[uQ];exact hl);rwa [uQ]at this) r q) λr s' hq=>?_);cases r with
 |error e=>
  dsimp only[CR]at hq;exact BO jh Gk hN hj hn hi hy Md Me hx I1 hq (λc d H' z=>z) Fl AF gt xz
 |ok fl=>
  cases fl with
  |ret u=>obtain⟨_,_,_,_,_,_,_,z⟩:=hq;exact z.elim
  |next=>exact False.elim hq
  |brk=>exact False.elim hq
  |cont=>exact False.elim hq
structure Ei (K:Frag)(C:Addr):Prop where
 ga:findIn K (.ref C) "__getattribute__" = some (some (.builtin "BaseException.__getattribute__"))
 gk:findIn K (.ref C) "__getattr__" = some none
 be:mroIn K C (.type "BaseException")=some true
 hd:PySem.W.hasDictIn K C=true
 cl:findIn K (.ref C) "__class__" = some (some (.builtin "object.__class__"))
 cg:PySem.W.specialIn K (.builtin "object.__class__") "__get__" = some (some (.builtin "getset_descriptor.__get__"))
 ct:PySem.W.takesIn K (.builtin "object.__class__")=some true
 ob:mroIn K C (.type "object")=some true
def GU (K:Frag)(C:Addr):List V->Hp->VK->Prop:=λvs H Q=>∃e dx fs cv cu b,vs=[.ref e,cv]/\H e=some (XO e C (some dx))/\H dx=some (.xd fs)/\(∀u,L2.aI cv u->u=cu)/\PySem.W.kitOne K (.ref C) cu=some b/\Q (.bl b) H
theorem El (c:Ei X.K C):bN X (.builtin "isinstance") (GU X.K C):=by
 intro ac s σ H vs us Q I r ⟨e,dx,fs,cv,cu,b,ev,he,hd,hu,hk,q⟩;subst ev;obtain⟨u1,u2,rfl,r1,r2⟩:∃u1 u2,us=[u1,u2]/\L2.aI (.ref e) u1/\L2.aI cv u2:=by
  cases r with|cons a b=>cases b with|cons b c=>cases c with|nil=>exact⟨_,_,rfl,a,b⟩
 obtain rfl:u1=Value.ref e:=r1;obtain rfl:=hu _ r2;obtain⟨ox,od,IA,_⟩:=sy I.hok he hd;exact kia_one (w6 c.ga c.gk c.be c.hd c.cl c.cg c.ct c.ob) I.kIn ⟨ox,od,IA⟩ hk (λz=>nomatch z) λtk=>⟨.bl b,H,I.tok tk,rfl,q⟩
def Ks (C:Addr)(name:Str)(ta:TE):TE:=λσ H Q=>ta σ H λx H1=>∃e dx v,x=.ref e/\H1 e=some (XO e C (some dx))/\H1 dx=some (.xd [(name,v)])/\Q v H1
theorem sA {e:Expr}{name:Str}{pos:Pos}{ta:TE}(c:Ei X.K C)(xG:findIn X.K (.ref C) name=some none)(he:PE X e ta)(hb:attributeBase e name X.env (eval e X.env)=eval e X.env:=by rfl):PE X (.Attribute e name pos) (Ks C name ta):=by
 intro ac s σ H Q I h;refine ye hb (bY (he ac s σ H _ I h) λu s1 ⟨x,H1,I1,rx,ea,dx,v,ex,h1,h2,q⟩=>?_);subst ex;obtain rfl:u=Value.ref ea:=rx;obtain⟨o,vs,a1,a2,a3,a4⟩:=Au (I1.hok ea _ h1);obtain⟨mA,ns,AE⟩:=I1.hok dx _ h2;obtain⟨od,b1,b2⟩:=lW ns;obtain⟨u',eu,ru⟩:∃u',mA name=some u'/\L2.aI v u':=by
  have:=AE name;simp only[List.lookup,beq_self_eq_true]at this;cases q:mA name with
  |none=>rw[q]at this;exact this.elim
  |some u'=>rw[q]at this;exact⟨u',rfl,this⟩
 have IA:PySem.W.InstAt s1.heap ea o C (some od):=⟨a1,a2,by unfold PySem.W.notCls;rw[a4],by rw[a3];exact b1⟩;have hl:PySem.W.lookIn name od=some (some u'):=by rw[b2,eu]
 refine yR I1.kIn IA c.ga c.gk c.be (PySem.W.findObj_own c.hd xG rfl hl) ?_ ⟨v,H1,I1.tok _,ru,q⟩;cases v<;>first|(cases ru;rfl)|(obtain⟨_,z⟩:=ru;cases z;rfl)
end
end EX
namespace DL
open PySem PySem.Spec PyProof.Rows L2 EX
open PySem.W (Frag findIn mroIn keepIn isFn)
theorem uc {H:Hp}{e C t0 dx:Addr}{name:Str}{v:V}{u:HO}(h1:H e=none)(h2:H dx=none):aO H (upd (fR H e C t0 dx name v) e u):=λb o q=>by
 have n1:b≠e:=λz=>by rw[z,h1]at q;cases q
 have n2:b≠dx:=λz=>by rw[z,h2]at q;cases q
 rw[au n1,BL n1 n2];exact q
theorem sC {H:Hp}{e C t0 dx:Addr}{name:Str}{v:V}{u:HO}(n:dx≠e):upd (fR H e C t0 dx name v) e u dx=some (.xd [(name,v)]):=by rw[au n,BK n]
def IK (C:Addr)(name:Str):Sp:=λvs H Q _=>∃e dx v w,vs=[.ref e,w]/\H e=some (XO e C (some dx))/\H dx=some (.xd [(name,v)])/\((v=.non/\w=.non)∨∃k,v=.int k/\w=.int k)/\Q (.bl true) H
structure FnX (P:Program)(w:World)(K:Frag)(mg:Str->Option Value)(base:Heap)(C:Addr)(name:Str)(k:Nat)(x:Str)(f:List D->OB):Prop where
 ex:∃(ad:Addr)(fd:FuncData)(ps:List Str),fg P w K mg base (sx P w) k ad fd ps (FI K C name f)/\mg x=some (.ref ad)/\keepIn K (.ref ad)=true/\eB K fd ps []
structure FnS (P:Program)(w:World)(K:Frag)(mg:Str->Option Value)(base:Heap)(k:Nat)(x:Str)(sp:Sp):Prop where
 ex:∃(ad:Addr)(fd:FuncData)(ps:List Str),fg P w K mg base kq k ad fd ps sp/\mg x=some (.ref ad)/\keepIn K (.ref ad)=true/\eB K fd ps []
structure Exc (P:Program)(w:World)(K:Frag)(mg:Str->Option Value)(base:Heap)(x:Str)(C:Addr)(name:Str):Prop where
 nm:mg x=some (.ref C)
 ec:Ec K C
 ei:Ei K C
 na:findIn K (.ref C) name=some none
 init:∃fI fd ps,findIn K (.ref C) "__init__" = some (some (.ref fI))/\isFn K (.ref fI)=true/\fg P w K mg base kq 1 fI fd ps (CD C name)/\eB K fd ps []
section
variable {P:Program}{w:World}{K:Frag}{mg:Str->Option Value}{base:Heap}
theorem dU.fqX {x:Str}{st:Stmt}{k:Nat}{C:Addr}{name:Str}{F':List D->OB}(F:dU K x st)(B:∃h,K.In h/\h.Ns mainGlobals mg)(g:FS)(N:List Str)(n:Nat)
  (hb:∀ {f:Addr}{bM:Value}{A:Around}{outer:List PySem.Env}{s:Shared}{H:Hp}{E:XK},N.Nodup->cE k (A.deeper (envOfC x (ar st) s.heap.objs.size f bM))->(A.deeper (envOfC x (ar st) s.heap.objs.size f bM)).units+40<cLine ->
   yX (eC (sx P w) P w K mg base N x (ar st) f bM A outer s H E) (RE E C name) (ba st) g)
  (S:FnScope N (N.take n) (ar st):=by refine⟨rfl,rfl,rfl,?_,rfl,?_,?_⟩<;>decide +kernel)
  (ro:∀(kV doc pm:Value)(an:Option Addr)(bM ct:Value)(us:List Value),us.length=(N.take n).length->bindArgs (fnOf x x (c6 st) (ba st) (ar st) .none kV doc pm an bM ct) ⟨us,[]⟩=pure ((N.take n).zip us):=by
   exact λ_ _ _ _ _ _=>wz _ _ (by(repeat intro);rfl))
  (e:jA g (N.take n).length (N.length - (N.take n).length)=F':=by rfl):FnX P w K mg base C name (k+1) x F':=by
 obtain⟨_,X,G⟩:=B;obtain⟨f,fd,F1,a⟩:=F;subst e;exact⟨f,fd,_,GS F1 S λbM A outer s H E hr=>hb S.nd hr (By hr),mg_of X G a,F1.kp,F1.binds ro⟩
theorem dU.fqS {x:Str}{st:Stmt}{k:Nat}{sp:Sp}(F:dU K x st)(B:∃h,K.In h/\h.Ns mainGlobals mg)(N:List Str)(n:Nat)(len:∀vs H Q E,sp vs H Q E->vs.length=(N.take n).length)
  (hb:∀ {f:Addr}{bM:Value}{A:Around}{outer:List PySem.Env}{s:Shared}{H:Hp}{E:XK}{vs:List V}{Q:VK},N.Nodup->cE k (A.deeper (envOfC x (ar st) s.heap.objs.size f bM))->sp vs H Q E ->
   ∃t,ki (eC kq P w K mg base N x (ar st) f bM A outer s H E) (ba st) t/\t { nx:=λ_ H'=>Q .non H',rt:=Q } (L2.cZ N vs) H)
  (S:FnScope N (N.take n) (ar st):=by refine⟨rfl,rfl,rfl,?_,rfl,?_,?_⟩<;>decide +kernel)
  (ro:∀(kV doc pm:Value)(an:Option Addr)(bM ct:Value)(us:List Value),us.length=(N.take n).length->bindArgs (fnOf x x (c6 st) (ba st) (ar st) .none kV doc pm an bM ct) ⟨us,[]⟩=pure ((N.take n).zip us):=by
   exact λ_ _ _ _ _ _=>wz _ _ (by(repeat intro);rfl)):FnS P w K mg base (k+1) x sp:=by
 obtain⟨_,X,G⟩:=B;obtain⟨f,fd,F1,a⟩:=F;have F2:=F1;obtain⟨oc,od,kV,doc,pm,an,bM,ct,jz,rfl,lk,gt⟩:=F2.ex;exact⟨f,_,_,rF lk gt S len λA outer s H vs Q E hr A8=>hb S.nd hr A8,mg_of X G a,F1.kp,F1.binds ro⟩
theorem FnS.fn {x:Str}{k:Nat}{f:List D->OB}(F:FnS P w K mg base k x (xK K f)):Fn P w K mg base k x f:=⟨F.ex⟩
end
section
variable {X:Cx}{C D:Addr}{x cx:Str}{p p1 p2 pos:Pos}{i:Nat}{b:Bool}
def HX (C:Addr)(name:Str)(i:Nat)(v:V)(σ:L2.St)(H:Hp):Prop:=∃e dx,σ[i]? = some (some (.ref e))/\H e=some (XO e C (some dx))/\H dx=some (.xd [(name,v)])
def Kt (C:Addr)(name:Str)(i:Nat)(b:Bool):TT:=λσ H Q=>(∃v,HX C name i v σ H)/\Q b H
theorem jt {y name:Str}{u:Value}{v:V}(c:Ei X.K C)(hn:X.mg "isinstance" = none)(hi:X.N[i]? = some y)(hv:xS X.env.scope y)(hp:PE X (.Name cx p2) (tC v))(hu:∀u',L2.aI v u'->u'=u)(hk:PySem.W.kitOne X.K (.ref C) u=some b)
  (hg:Gl X "isinstance":=by rfl) (hd:(y == ("__debug__" : Str))=false:=by decide) (gt:(y == ("__classdict__" : Str))=false:=by decide)
  (he:starEach [.Name y p1,.Name cx p2] X.env=(false,eval (.Name y p1) X.env)::starEach [.Name cx p2] X.env:=by rfl) (Fo:starEach [.Name cx p2] X.env=(false,eval (.Name cx p2) X.env)::starEach [] X.env:=by rfl)
  (hpl:(backTo pos (starEach [.Name cx p2] X.env)).any (·.1)=false:=by rfl)
  (hw:∀ie,isTrue (.Call (.Name "isinstance" p) [.Name y p1,.Name cx p2] [] pos) X.env ie=(do let v ←ie;standAt (Expr.Call (.Name "isinstance" p) [.Name y p1,.Name cx p2] [] pos).pos;holding [v] (truthy v)):=by intro _;rfl):
  PT X (.Call (.Name "isinstance" p) [.Name y p1,.Name cx p2] [] pos) (Kt C name i b) :=
 PT.to (qh (fK (El c) hg hn rfl (bJ (ci hi hv hd gt) (bJ hp cT Fo) he) (he:=he) (hpl:=hpl)) hw) λσ H Q ⟨⟨w,e,dx,h1,h2,h3⟩,q⟩=>⟨.ref e,h1,e,dx,_,v,u,b,rfl,h2,h3,hu,hk,b,rfl,q⟩
end
open PySem.W (Frag findIn mroIn keepIn isFn)
section
variable {P:Program}{w:World}{K:Frag}{mg:Str->Option Value}{base:Heap}
theorem za {qual:Str}{st:Stmt}{f C:Addr}{fd:FuncData}{p1 p2 p3 p4:Pos}(F:xN K "__init__" qual st f fd)(c:Ec K C)(xG:findIn K (.ref C) "at" = some none)
  (hb:ba st=[.Assign [.Attribute (.Name "self" p1) "at" p2] (.Name "at" p3) p4]) (S:FnScope ["self","at"] ["self","at"] (ar st))
  (h1:(ar st).names.lookup ("self" : Str)=some .local) (h2:(ar st).names.lookup ("at" : Str)=some .local)
  (hs:∀(env:PySem.Env),swapsWith (.Name "at" p3) (some (.Attribute (.Name "self" p1) "at" p2)) p4.line env=pure false):fg P w K mg base kq 1 f fd ["self","at"] (CD C "at"):=by
 refine F.ok (k:=0) S (λvs H Q E ⟨e,t0,v,ev,_⟩=>by rw[ev];rfl) λbM A outer s H vs Q E hr h=>⟨Eh C (om 0) (om 1) "at",?_,?_⟩
 ·rw[hb];exact dF (BM c xG (ci (i:=0) rfl (.inl h1)) (ci (i:=1) rfl (.inl h2)) (hs _))
 ·obtain⟨e,t0,v,rfl,he,q⟩:=h;exact⟨v,rfl,.ref e,rfl,e,t0,rfl,he,λdx hx=>q dx hx⟩
structure Raw (K:Frag)(x:Str)(st:Stmt)(C:Addr):Prop where
 nm:PySem.W.nsIn K mainGlobals x=some (some (.ref C))
 ec:Ec K C
 ei:Ei K C
 na:findIn K (.ref C) "at" = some none
 init:∃fI fd qual,findIn K (.ref C) "__init__" = some (some (.ref fI))/\isFn K (.ref fI)=true/\xN K "__init__" qual st fI fd
theorem Raw.exc {x:Str}{st:Stmt}{C:Addr}{p1 p2 p3 p4:Pos}(R:Raw K x st C)(B:∃h,K.In h/\h.Ns mainGlobals mg)
  (hb:ba st=[.Assign [.Attribute (.Name "self" p1) "at" p2] (.Name "at" p3) p4]:=by rfl) (S:FnScope ["self","at"] ["self","at"] (ar st):=by refine⟨rfl,rfl,rfl,?_,rfl,?_,?_⟩<;>decide +kernel)
  (h1:(ar st).names.lookup ("self" : Str)=some .local:=by rfl) (h2:(ar st).names.lookup ("at" : Str)=some .local:=by rfl)
  (hs:∀(env:PySem.Env),swapsWith (.Name "at" p3) (some (.Attribute (.Name "self" p1) "at" p2)) p4.line env=pure false:=by intro _;rfl)
  (ro:∀(qual:Str)(kV doc pm:Value)(an:Option Addr)(bM ct:Value)(us:List Value),us.length=2->bindArgs (fnOf "__init__" qual (c6 st) (ba st) (ar st) .none kV doc pm an bM ct) ⟨us,[]⟩=pure ((["self","at"]:List Str).zip us):=by
   exact λ_ _ _ _ _ _ _ us hl=>match us,hl with|[_,_],_=>rfl):Exc P w K mg base x C "at":=by
 obtain⟨_,X,G⟩:=B;obtain⟨fI,fd,qual,h3,h4,F⟩:=R.init;exact⟨mg_of X G R.nm,R.ec,R.ei,R.na,fI,fd,["self","at"],h3,h4,za F R.ec R.na hb S h1 h2 hs,F.binds (ro qual)⟩
end
section
variable {X:Cx}{dp:Pos}
@[simp] noncomputable def GV:FE:=λ_=>some (.dk [] [],false)
theorem Em:JE X (.Dict [] [] dp) GV:=PE.to uY λσ H Q ⟨B,ρ,d,b,s,r,e,q⟩ p ob hp=>by
 cases e
 exact q (.ref p) _ _ (Ext.laid s hp) (.dk (ks:=[]) (vs:=[]) aw rfl .nil) (λz=>nomatch z)
def Ku (K:Frag):List V->Hp->VK->Prop:=λvs H Q=>∃x ty cv cu b,vs=[x,cv]/\TyOf K H x ty/\(∀u,L2.aI cv u->u=cu)/\PySem.W.kitOne K ty cu=some b/\Q (.bl b) H
theorem wK:bN X (.builtin "isinstance") (Ku X.K):=by
 intro ac s σ H vs us Q I r ⟨x,ty,cv,cu,b,ev,ht,hu,hk,q⟩;subst ev;obtain⟨u1,u2,rfl,r1,r2⟩:∃u1 u2,us=[u1,u2]/\L2.aI x u1/\L2.aI cv u2:=by
  cases r with|cons a b=>cases b with|cons b c=>cases c with|nil=>exact⟨_,_,rfl,a,b⟩
 obtain rfl:=hu _ r2;exact dA I r1 ht hk λtk=>⟨.bl b,H,I.tok tk,rfl,q⟩
end
open PySem.W (Frag findIn mroIn keepIn isFn)
theorem BQ {K:Frag}{S:Addr}{n:String}(q:PySem.W.excIn K S EX.BJ n=true):PySem.W.tailIn K EX.BJ (.ref S::EX.BJ)=true:=by
 unfold PySem.W.excIn at q;split at q
 ·rename_i dd cd sl ho;split at q
  ·simp only[vC]at q;have h0:PySem.W.tailIn K EX.BJ EX.BJ=true:=by unfold PySem.W.tailIn;rfl
   unfold PySem.W.tailIn;simp only[ho];rw[q.1.2,q.2,h0];rfl
  ·cases q
 ·cases q
theorem raw_mk {K:Frag}{x nm q qual:Str}{st:Stmt}{C N S fI:Addr}{bs:List Value}{sn:List Str}{sub:List Value}{ab:Bool}{col:Option Bool}{dd:Option Addr}{k0 k1 k2 k3 k5:Option Value}{oc kV doc pm bM ct:Value}{od an:Option Addr}{jz:Array (Option Value)}
  (a0:PySem.W.nsIn K mainGlobals x=some (some (.ref C))) (a1:K.lookup C=some (excClassObj nm q C N bs (.ref S::EX.BJ) true sn sub ab col dd k0 k1 k2 k3 k5 "ValueError.__new__")) (a2:keepIn K (.ref C)=true)
  (a3:findIn K (.ref C) "__setattr__" = some (some (.builtin "object.__setattr__"))) (a4:mroIn K C (.type "object")=some true)
  (a5:findIn K (.ref C) "__getattribute__" = some (some (.builtin "BaseException.__getattribute__"))) (a6:findIn K (.ref C) "__getattr__" = some none) (a7:mroIn K C (.type "BaseException")=some true) (a8:PySem.W.hasDictIn K C=true)
  (a9:findIn K (.ref C) "__class__" = some (some (.builtin "object.__class__"))) (b0:PySem.W.specialIn K (.builtin "object.__class__") "__get__" = some (some (.builtin "getset_descriptor.__get__"))) (b1:PySem.W.takesIn K (.builtin "object.__class__")=some true)
  (b2:findIn K (.ref C) "at" = some none) (b3:findIn K (.ref C) "__init__" = some (some (.ref fI))) (b4:isFn K (.ref fI)=true)
  (b5:K.lookup fI=some ⟨oc,od,.func (fnOf "__init__" qual (c6 st) (ba st) (ar st) .none kV doc pm an bM ct),jz⟩) (b6:PySem.W.codeIn K bM qual=true) (b7:keepIn K (.ref fI)=true) (b8:PySem.W.excIn K S [.type "ValueError",.type "Exception",.type "BaseException",.type "object"] "ValueError.__new__" = true):Raw K x st C :=
 ⟨a0,⟨⟨_,_,_,_,_,_,_,_,_,_,_,_,_,_,_,a1,⟨BQ b8,rfl⟩,λself=>by rw[refuseLoop_ref];exact PySem.F.store_ValueError.passes self⟩,a2,a3,a4⟩,⟨a5,a6,a7,a8,a9,b0,b1,a4⟩,b2,fI,_,qual,b3,b4,uU b5 b6 b7⟩
section
variable {K:Frag}{C D:Addr}
theorem BR {b:Bool}{t:Value}(c1:PySem.W.isClsIn K D=true)(c2:PySem.W.typeIn K (.ref D)=some (.type "type"))(c3:PySem.W.subIn K t (.ref D)=some b):PySem.W.kitCls K t (.ref D)=some b:=by
 have c1:(PySem.W.clsIn K D).isSome=true:=c1;show(if((PySem.W.clsIn K D).isSome && PySem.W.typeIn K (.ref D) == some (.type "type"))=true then PySem.W.subIn K t (.ref D)else none)=_;rw[c1,c2,if_pos (by simp)];exact c3
theorem p6 (c1:PySem.W.isClsIn K D=true)(c2:PySem.W.typeIn K (.ref D)=some (.type "type"))(c3:PySem.W.subIn K (.ref C) (.ref D)=some true):PySem.W.kitOne K (.ref C) (.ref D)=some true:=by
 unfold PySem.W.kitOne;split
 ·rfl
 ·exact BR c1 c2 c3
theorem ju (c0:PySem.W.subIn K (.ref C) (.ref C)=some true)(c1:PySem.W.isClsIn K D=true)(c2:PySem.W.typeIn K (.ref D)=some (.type "type"))(c3:PySem.W.subIn K (.ref C) (.ref D)=some false):PySem.W.kitOne K (.ref C) (.ref D)=some false:=by
 unfold PySem.W.kitOne;split
 ·rename_i h;have:C=D:=Value.ref.inj (beq_iff_eq.mp h);rw[this]at c0 c3;rw[c0]at c3;cases c3
 ·exact BR c1 c2 c3
theorem p7 (c1:PySem.W.isClsIn K D=true)(c2:PySem.W.typeIn K (.ref D)=some (.type "type"))(c3:PySem.W.subIn K (.ref C) (.ref D)=some true)(c4:PySem.W.subIn K (.ref D) (.type "BaseException")=some true):PySem.W.exmOne K (.ref C) (.ref D)=some true:=by
 unfold PySem.W.exmOne;rw[c4,if_pos (by simp)];exact BR c1 c2 c3
theorem BS (c:PySem.W.subIn K (.ref C) (.type "ValueError")=some true):PySem.W.kitOne K (.ref C) (.type "ValueError")=some true:=by
 show(if PySem.W.kitMeta "ValueError" = true then PySem.W.subIn K (.ref C) (.type "ValueError")else none)=some true;rw[if_pos (by kernel_rfl)];exact c
end
end DL
namespace DL
open PySem L2
theorem kM (I:Nat->Env->Prop)(ds:List D)(ρ0:Env)(h0:I 0 ρ0)
  (step:∀i d ρ,ds[i]? = some d->I i ρ->∃ρ1 ρ',tg d ρ=some ρ1/\(g ρ1=some (.nx ρ')∨g ρ1=some (.ct ρ'))/\I (i+1) ρ'):
  ∃ρ',gf tg g ds ρ0=some (.nx ρ')/\I ds.length ρ':=by
 have key:∀(es:List D)(i:Nat)(ρ:Env),ds.drop i=es->i+es.length=ds.length->I i ρ->∃ρ',gf tg g es ρ=some (.nx ρ')/\I ds.length ρ':=by
  intro es;induction es with
  |nil=>intro i ρ e hl h;refine⟨ρ,by rw[vi],?_⟩;rw[←hl];exact h
  |cons d es ih=>
   intro i ρ e hl h;have hd:ds[i]? = some d:=by
    have:(ds.drop i)[0]? = some d:=by rw[e];rfl
    rwa [List.getElem?_drop,Nat.add_zero]at this
   obtain⟨ρ1,ρ',h1,h2,h3⟩:=step i d ρ hd h;have he:ds.drop (i+1)=es:=by rw[←List.drop_drop,e];rfl
   obtain⟨ρ2,k1,k2⟩:=ih (i+1) ρ' he (by simp at hl;omega) h3;refine⟨ρ2,?_,k2⟩;rw[jm,h1];rcases h2 with h2|h2<;>simp only[vI,h2]<;>exact k1
 exact key ds 0 ρ0 (by simp) (by simp) h0
theorem p8 (n:Nat)(I:Nat->Env->Prop)(ρ0:Env)(h0:I 0 ρ0)
  (step:∀(i:Nat) ρ,i<n->I i ρ->∃ρ1 ρ',tg (.int (i:Int)) ρ=some ρ1/\(g ρ1=some (.nx ρ')∨g ρ1=some (.ct ρ'))/\I (i+1) ρ'):
  ∃ρ',gf tg g (bB 0 n) ρ0=some (.nx ρ')/\I n ρ':=by
 have hl:(bB 0 n).length=n:=by simp[bB]
 obtain⟨ρ',h1,h2⟩:=kM (tg:=tg) (g:=g) I (bB 0 n) ρ0 h0 λi d ρ hd h=>by
  unfold bB at hd;rw[vA]at hd;obtain⟨k,hk,hd⟩:=oY hd;obtain⟨fH,hk⟩:=vV hk;rw[List.length_range]at fH;rw[List.getElem_range]at hk;subst hk;rw[Int.zero_add]at hd;subst hd;exact step i ρ fH h
 rw[hl]at h2;exact⟨ρ',h1,h2⟩
theorem eO {α:Type}{xs:List α}{j:Nat}(h:j<xs.length):md xs (j:Int)=some xs[j]:=ym (by simp[h])
theorem sD {α:Type}{xs:List α}{i:Int}(h0:0<=i)(h:i.toNat<xs.length):md xs i=some xs[i.toNat]:=by
 have:=eO h;rwa [Int.toNat_of_nonneg h0]at this
@[simp] theorem Aw (xs:List Int):bi (xs.map D.int)=true:=by
 induction xs with
 |nil=>simp
 |cons x xs ih=>simp[ih]
@[simp] theorem xL (n:Nat)(xs:List Int):(xs.map D.int).all (aM n)=true:=by
 induction xs with
 |nil=>simp
 |cons x xs ih=>simpa using ih
@[simp] theorem zb (xs:List Int):(xs.map D.int).all eK=true:=by
 induction xs with
 |nil=>simp
 |cons x xs ih=>simpa using ih
mutual
def iV:D->D->Bool
 |.non,.non=>true
 |.bl a,.bl b=>a == b
 |.int a,.int b=>decide (a=b)
 |.str a,.str b=>decide (a=b)
 |.ty a,.ty b=>decide (a=b)
 |.tup xs,.tup ys=>kN xs ys
 |.lst xs,.lst ys=>kN xs ys
 |_,_=>false
def kN:List D->List D->Bool
 |[],[]=>true
 |x::xs,y::ys=>iV x y && kN xs ys
 |_,_=>false
end
mutual
theorem sE:∀ {x y:D},iV x y=true->x=y
 |.non,.non,_=>rfl
 |.bl a,.bl b,h=>by simp[iV]at h;rw[h]
 |.int a,.int b,h=>by simp[iV]at h;rw[h]
 |.str a,.str b,h=>by simp[iV]at h;rw[h]
 |.ty a,.ty b,h=>by simp[iV]at h;rw[h]
 |.tup xs,.tup ys,h=>by rw[iV]at h;rw[kO h]
 |.lst xs,.lst ys,h=>by rw[iV]at h;rw[kO h]
theorem kO:∀ {xs ys:List D},kN xs ys=true->xs=ys
 |[],[],_=>rfl
 |x::xs,y::ys,h=>by
  rw[kN,vC]at h;rw[sE h.1,kO h.2]
end
def Ax (r:OB)(d:D)(b:Bool):Bool:=match r with
 |some (e,c)=>iV e d && c == b
 |none=>false
theorem cy (h:Ax r d b=true):r=some (d,b):=by
 unfold Ax at h;split at h
 ·rw[vC]at h;rw[sE h.1,eq_of_beq h.2]
 ·cases h
section
variable {f:FE}{c:FT}{g g' h:FS}{ρ ρ':Env}{i:Nat}{d:D}{b:Bool}{r:Option Res}{ds:List D}
theorem aF (hl:ds.length=n)(e:g (ds.map (λd=>some (d,false))++List.replicate k none)=some (.rt d b)):aZ g n k ds=some (d,b):=by
 unfold aZ;rw[if_pos hl,e]
theorem m8 (n:bw d=true):setE ρ i d b=ρ.set i (some (d,false)):=by unfold setE;rw[if_pos n]
theorem wL (n:bi ds=true):setE ρ i (.lst ds) true=ρ.set i (some (.lst ds,true)):=by
 unfold setE;rw[if_neg (by simp),if_pos ⟨rfl,by simpa using n⟩]
theorem m9 (e:f ρ=some (d,b))(k:h (setE ρ i d b)=r):aD (bt i f) h ρ=r:=by simp[e];exact k
theorem fE (e:f ρ=some (d,b))(n:bw d=true)(k:h (ρ.set i (some (d,false)))=r):aD (bt i f) h ρ=r:=m9 e (by rw[m8 n];exact k)
theorem gp (e:f ρ=some (.lst ds,true))(n:bi ds=true)(k:h (ρ.set i (some (.lst ds,true)))=r):aD (bt i f) h ρ=r:=m9 e (by rw[wL n];exact k)
theorem gJ (e:g ρ=some (.nx ρ'))(k:h ρ'=r):aD g h ρ=r:=by unfold aD;rw[e];exact k
theorem GW (e:g ρ=some (.rt d b)):aD g h ρ=some (.rt d b):=by unfold aD;rw[e]
theorem p9 (e:c ρ=some true)(k:g ρ=r):dj c g g' ρ=r:=by unfold dj;rw[e];exact k
theorem zc (e:c ρ=some false)(k:g' ρ=r):dj c g g' ρ=r:=by unfold dj;rw[e];exact k
theorem cM (e:c ρ=some true)(k:g ρ=some (.rt d b)):aD (dj c g g') h ρ=some (.rt d b):=GW (p9 e k)
theorem aH (e:c ρ=some false)(k:h ρ=r):aD (dj c g aU) h ρ=r:=gJ (zc e rfl) k
theorem aR (e:f ρ=some (d,b)):aX f ρ=some (.rt d b):=by simp[e]
theorem nP (e:ρ[i]? = some (some (d,b)))(hb:Ae d=false:=by rfl):j6 i ρ=some (.rt d b):=by simp only[j6,e,hb];simp
theorem wM (e:f ρ=some (d,b))(n:bw d=true):bt i f ρ=some (.nx (ρ.set i (some (d,false)))):=by
 show(f ρ).map _=_;rw[e,Option.map_some,m8 n]
theorem qW (e:ρ[i]? = some (some (.lst ds,true)))(ef:f ρ=some (d,b))(n:bw d=true)(l:ds.length<sizeLine):ni i f ρ=some (.nx (ρ.set i (some (.lst (ds++[d]),true)))):=by
 simp[e,ef,n,l]
theorem kP (e:fi ρ=some ds)(k:gf tg g ds ρ=some (.nx ρ')):fO fi tg g ρ=some (.nx ρ'):=by unfold fO;rw[e];exact k
theorem zd (e:fi (mW ρ)=some ds)(k:gf tg g ds ρ=some (.nx ρ')):t8 fi tg g ρ=some (.nx ρ'):=by unfold t8;rw[e];exact k
theorem dc {f:FE}{j:Nat}(e:f ρ=some (.int j,b))(hj:j<=1000):bC f ρ=some (bB 0 j):=by
 unfold bC;rw[e];simp only[];rw[if_pos (by omega)];simp
theorem aN (e:f ρ=some (.bl x,b)):bE f ρ=some x:=by unfold bE;rw[e]
theorem ai (e:fa ρ=some ds)(k:F ds=x):fA F fa ρ=x:=by unfold fA;rw[e,vI];exact k
theorem kQ {f1 g1:D->D->OB}{fa fb fc:FE}{x y z:D}{b1 b2 b3 b4 p q:Bool}(ea:fa ρ=some (x,b1))(eb:fb ρ=some (y,b2))(ec:fc ρ=some (z,b3))(e1:f1 x y=some (.bl p,b4))(e2:p=true->g1 y z=some (.bl q,false)):eI f1 g1 fa fb fc ρ=some (.bl (p && q),false):=by
 unfold eI;rw[ea,eb,ec];simp only[vI,e1];cases p
 ·rfl
 ·exact e2 rfl
theorem kR {f1 f2:FE}{p q b1:Bool}(e1:f1 ρ=some (.bl p,b1))(e2:p=true->f2 ρ=some (.bl q,false)):jP f1 f2 ρ=some (.bl (p && q),false):=by
 unfold jP;rw[e1];cases p
 ·rfl
 ·exact e2 rfl
theorem Ay {f1 f2:FE}{p q b1:Bool}(e1:f1 ρ=some (.bl p,b1))(e2:p=false->f2 ρ=some (.bl q,false)):Bs f1 f2 ρ=some (.bl (p || q),false):=by
 unfold Bs;rw[e1];cases p
 ·exact e2 rfl
 ·rfl
theorem ze {f1:FE}{p b1:Bool}(e1:f1 ρ=some (.bl p,b1)):vj f1 ρ=some (.bl (!p),false):=by
 unfold vj;rw[e1]
theorem aq (e1:f ρ=some (d,b))(e2:fr ρ=some xs):aa f fr ρ=some (d::xs):=by
 unfold aa;rw[e1,vI,e2,vI]
theorem aS (e1:fa ρ=some (x,b1))(e2:fb ρ=some (y,b2))(e3:op x y=z):f2 op fa fb ρ=z:=by
 unfold f2;rw[e1,vI,e2,vI];exact e3
theorem iW (e1:c1 ρ=some p)(e2:p=true->c2 ρ=some q):dR c1 c2 ρ=some (p && q):=by
 unfold dR;rw[e1];cases p
 ·rfl
 ·exact e2 rfl
theorem cN (e1:c1 ρ=some p)(e2:p=false->c2 ρ=some q):dP c1 c2 ρ=some (p || q):=by
 unfold dP;rw[e1];cases p
 ·exact e2 rfl
 ·rfl
theorem dZ (e1:c1 ρ=some p):da c1 ρ=some (!p):=by
 unfold da;rw[e1];rfl
end
theorem zf (a c:Nat):decide ([a]<[c])=decide (a<c):=by
 congr 1;rw[List.cons_lt_cons_iff];simp
@[simp] theorem sF (a c:Nat):mm (.str ⟨#[a]⟩) (.str ⟨#[c]⟩)=some (.bl (decide (a<=c)),false):=by
 unfold mm;show some (D.bl (!decide ([c]<[a])),false)=_;rw[zf];congr 3;by_cases h:c<a
 ·rw[decide_eq_true h,decide_eq_false (by omega)];rfl
 ·rw[decide_eq_false h,decide_eq_true (by omega)];rfl
theorem gm (h:n<=100000):n<sizeLine:=Nat.lt_of_le_of_lt h (by decide)
theorem eP (h:n<=100000):n<=sizeLine:=Nat.le_of_lt (gm h)
theorem pA {α:Type}(l:List α)(g:α->D)(p:α->Bool)(h:α->D)(e:fi ρ=some (l.map g))(hl:l.length<=100000)
  (k:∀x∈l,∃ρ1,tg (g x) (fm nT cap ρ)=some ρ1/\c ρ1=some (p x)/\(p x=true->∃b,fe ρ1=some (h x,b))):bO fi nT cap tg c fe ρ=some (.lst ((l.filter p).map h),true):=by
 have key:∀l':List α,(∀x∈l',x∈l)->dS tg c fe (fm nT cap ρ) (l'.map g)=some ((l'.filter p).map h):=by
  intro l';induction l' with
  |nil=>intro _;simp
  |cons x l' ih=>
   intro hm;obtain⟨ρ1,h1,h2,h3⟩:=k x (hm x mX);have ih:=ih λy hy=>hm y (mZ _ hy);rw[List.map_cons,q8,h1,vI,h2,vI];cases hp:p x with
   |false=>simp[hp,ih]
   |true=>
    obtain⟨b,h4⟩:=h3 hp;simp[hp,ih,h4]
 unfold bO;rw[e,vI,if_pos (eP (by simpa using hl)),key l λ_ h=>h,Option.map_some]
theorem mB {α:Type}(l:List α)(g:α->D)(h:α->D)(e:fi ρ=some (l.map g))(hl:l.length<=100000)
  (k:∀x∈l,∃ρ1,tg (g x) (fm nT cap ρ)=some ρ1/\∃b,fe ρ1=some (h x,b)):bO fi nT cap tg dz fe ρ=some (.lst (l.map h),true):=by
 have:=pA (c:=dz) (fe:=fe) l g (λ_=>true) h e hl λx hx=>by
  obtain⟨ρ1,h1,h2⟩:=k x hx;exact⟨ρ1,h1,rfl,λ_=>h2⟩
 rw[List.filter_eq_self.mpr λ_ _=>rfl]at this;exact this
@[simp] theorem pB {α:Type}(f:α->Bool)(l:List α):qD (l.map λx=>.bl (f x))=some (l.map f):=by
 induction l with
 |nil=>rfl
 |cons x l ih=>simp[ih]
theorem uO (h0:0<=i)(h:i.toNat<z.cps.size)(hz:z.length<=100000):cJ (.str z) (.int i)=some (.str ⟨#[z.cps.toList.getD i.toNat 0]⟩,false):=by
 have hh:i.toNat<z.cps.toList.length:=by simpa using h
 simp only[cJ];rw[if_pos (eP hz),sD h0 hh];simp[List.getD,h]
theorem uM (h0:0<=i)(h:i.toNat<ds.length):cJ (.tup ds) (.int i)=some (ds.getD i.toNat .non,false):=by
 simp only[cJ];rw[sD h0 h];simp[List.getD,h]
theorem ud (z:Str):oS z=z.cps.toList.map λc=>.str ⟨#[c]⟩:=rfl
theorem mod_lt {x m:Int}(hm:0<m):0<=x % m/\x % m<m:=⟨Int.emod_nonneg _ (by omega),Int.emod_lt_of_pos _ hm⟩
theorem wN (h:0<=v):HT.c7 n d (some v)=min v.toNat n:=by
 show(if v<0 then (v+(n:Int)).toNat else min v.toNat n)=_;rw[if_neg (by omega)]
theorem IL (ds:List D)(e:fa ρ=some ds)(k:F ds=x):fA F fa ρ=x:=ai e k
@[simp] noncomputable abbrev Mr (ak:List D)(Fs:Int)(t:Env):Env:=some (.tup ak,false)::some (.int Fs,false)::t
@[simp] noncomputable abbrev eR (ns:List Int)(zs:List Str)(ms:Int)(Ih:List Str)(R:List D)(a b:OB)(t:Env):Env:=some (.lst (ns.map .int),false)::some (.lst (zs.map .str),false)::some (.int ms,false)::a::some (.lst (Ih.map .str),true)::some (.lst R,true)::b::t
end DL
namespace Lw
open PySem DL
noncomputable def hZ:D:=(.int 255)
noncomputable def kS:D:=(.int 9999)
noncomputable def gK:D:=(.int 9)
noncomputable def gL:D:=(.int 8)
noncomputable def ia:D:=(.int 20)
noncomputable def fF:D:=(.int 8)
noncomputable def de:D:=(.int 60)
noncomputable def bX:List (PySem.Str×D):=[(("root" : Str),(.tup [(.str "office"),(.str "matters"),(.str "further"),(.str "rule")])),(("named" : Str),(.tup [(.str "day"),(.str "office"),(.str "person")])),(("chosen" : Str),(.tup [(.str "day"),(.str "by"),(.str "office"),(.str "person"),(.str "since")])),(("heir" : Str),(.tup [(.str "day"),(.str "by"),(.str "office"),(.str "person")])),(("death" : Str),(.tup [(.str "day"),(.str "person")])),(("lost" : Str),(.tup [(.str "day"),(.str "person")])),(("found" : Str),(.tup [(.str "day"),(.str "person")])),(("leave" : Str),(.tup [(.str "day"),(.str "by"),(.str "person"),(.str "matters"),(.str "stretch"),(.str "further")])),(("paper" : Str),(.tup [(.str "day"),(.str "by"),(.str "matters"),(.str "stretch"),(.str "whom"),(.str "pieces")])),(("like" : Str),(.tup [(.str "day"),(.str "by"),(.str "matters"),(.str "stretch"),(.str "whom"),(.str "of"),(.str "changes")])),(("copy" : Str),(.tup [(.str "day"),(.str "by"),(.str "of")])),(("call" : Str),(.tup [(.str "day"),(.str "by"),(.str "of")]))]
noncomputable def cB:D:=(.tup [(.str "by"),(.str "person"),(.str "whom")])
noncomputable def sG:D:=(.tup [(.str "open"),(.str "first"),(.str "last")])
def kT:FS :=
  (aX (jP (fA aC (fV 0 (aa (fC (.ty "int")) af))) (jP (vj (fA aC (fV 0 (aa (fC (.ty "bool")) af)))) (eI mm mm (aj 1) (aj 0) (aj 2)))))
def cW:=aZ kT 3 0
def pC:FS :=
  (aX (fA cW (fV 0 (aa (fI 0) (aa (fC kS) af)))))
def eQ:=aZ pC 1 0
def iX:FS :=
  (aD (dj (dP (da (bE (fA aC (fV 0 (aa (fC (.ty "tuple")) af))))) (dP (bE (f2 yB (fA cb (fV 0 af)) (fI 2))) (da (bE (fA eQ (aa (cI 0 0) af)))))) (aX (fC (.bl false))) aU)
  (aX (Bs (f2 FC (cI 0 1) (fC .non)) (jP (fA eQ (aa (cI 0 1) af)) (f2 DK (cI 0 0) (cI 0 1))))))
def ej:=aZ iX 1 0
def iY:FS :=
  (aX (fA cW (fV 0 (aa (fI 1) (aa (fC hZ) af)))))
def em:=aZ iY 1 0
def mC:FS :=
  (aD (dj (dP (da (bE (fA aC (fV 0 (aa (fC (.ty "str")) af))))) (da (bE (eI mm mm (fI 1) (fA cb (fV 0 af)) (fC gL))))) (aX (fC (.bl false))) aU)
  (aX (fA nE (aa (bO (iM (aj 0)) 1 [] (fN 0) dz (eI mm mm (fS "a") (aj 0) (fS "z"))) af))))
def e8:=aZ mC 1 0
def mD:FS :=
  (aX (jP (fA aC (fV 0 (aa (fC (.ty "str")) af))) (f2 B1 (aj 0) (fC sG))))
def mE:=aZ mD 1 0
def kU:FS :=
  (aX (fA e8 (fV 0 af)))
def i6:=aZ kU 1 0
def jB:FS :=
  (aD (dj (dP (da (bE (fA aC (fV 0 (aa (fC (.ty "tuple")) af))))) (da (bE (eI mm mm (fI 1) (fA cb (fV 0 af)) (fC fF))))) (aX (fC (.bl false))) aU)
  (aX (fA nE (aa (bO (iM (aj 0)) 1 [] (fN 0) dz (fA i6 (fV 0 af))) af))))
def jC:=aZ jB 1 0
def jD:FS :=
  (aD (dj (dP (da (bE (fA aC (fV 0 (aa (fC (.ty "tuple")) af))))) (bE (f2 yB (fA cb (fV 0 af)) (fI 2)))) (aX (fC (.bl false))) aU)
  (aX (jP (fA cW (aa (cI 0 0) (aa (fI 0) (aa (f2 lK (fC fF) (fI 1)) af)))) (fA i6 (aa (cI 0 1) af)))))
def jE:=aZ jD 1 0
def iZ:FS :=
  (aD (dj (dP (da (bE (fA aC (fV 0 (aa (fC (.ty "tuple")) af))))) (da (bE (fA nE (aa (bO (iM (aj 0)) 1 [] (fN 0) dz (fA jE (fV 0 af))) af))))) (aX (fC (.bl false))) aU)
  (aD (bt 1 (bO (iM (aj 0)) 1 [] (fN 0) dz (cI 0 0)))
  (aX (fA nE (aa (bO (vK (aj 1) (iC (aj 1) (bK (fI 1)) bQ)) 2 [] (CB [0,1]) dz (f2 DK (aj 0) (aj 1))) af)))))
def ja:=aZ iZ 1 1
def mF:FS :=
  (aD (dj (dP (bE (f2 dg (aj 0) (fS "day"))) (bE (f2 dg (aj 0) (fS "since")))) (aX (fA eQ (fV 1 af))) aU)
  (aD (dj (dP (bE (f2 dg (aj 0) (fS "office"))) (dP (bE (f2 dg (aj 0) (fS "by"))) (bE (f2 dg (aj 0) (fS "person"))))) (aX (fA e8 (fV 1 af))) aU)
  (aD (dj (bE (f2 dg (aj 0) (fS "whom"))) (aX (Bs (f2 FC (aj 1) (fC .non)) (fA e8 (fV 1 af)))) aU)
  (aD (dj (bE (f2 dg (aj 0) (fS "matters"))) (aX (fA em (fV 1 af))) aU)
  (aD (dj (bE (f2 dg (aj 0) (fS "stretch"))) (aX (fA ej (fV 1 af))) aU)
  (aD (dj (bE (f2 dg (aj 0) (fS "further"))) (aX (fA cW (fV 1 (aa (fI 0) (aa (fC gK) af))))) aU)
  (aD (dj (bE (f2 dg (aj 0) (fS "rule"))) (aX (fA mE (fV 1 af))) aU)
  (aD (dj (bE (f2 dg (aj 0) (fS "of"))) (aX (fA cW (fV 1 (aa (fI 0) (aa (f2 lK (fC de) (fI 1)) af))))) aU)
  (aD (dj (bE (f2 dg (aj 0) (fS "pieces"))) (aX (fA jC (fV 1 af))) aU)
  (aX (fA ja (fV 1 af))))))))))))
def bU:=aZ mF 2 0
def mG:FS :=
  (aD (dj (dP (da (bE (fA aC (fV 0 (aa (fC (.ty "tuple")) af))))) (dP (bE (f2 dg (fA cb (fV 0 af)) (fI 0))) (da (bE (fA aC (aa (cI 0 0) (aa (fC (.ty "str")) af))))))) (aX (fC (.bl false))) aU)
  (aD (dj (dP (bE (f1 (kD bX) (cI 0 0))) (bE (f2 yB (fA cb (fV 0 af)) (f2 bj (fI 1) (fA cb (aa (f1 (iQ bX) (cI 0 0)) af)))))) (aX (fC (.bl false))) aU)
  (aX (fA nE (aa (bO (vK (f1 (iQ bX) (cI 0 0)) (iC (aj 0) (bK (fI 1)) bQ)) 2 [] (CB [0,1]) dz (fA bU (fV 0 (fV 1 af)))) af)))))
def jv:=aZ mG 1 0
def mH:FS :=
  (aX (f2 cJ (cI 0 1) (fI 0)))
def bV:=aZ mH 1 0
def mI:FS :=
  (aX (f2 cJ (cI 0 1) (f2 bj (fI 1) (f2 (pv bX) (fA bV (fV 0 af)) (aj 1)))))
def df:=aZ mI 2 0
def pD:FS :=
  (aD (dj (bE (f2 dg (fA bV (fV 0 af)) (fS "root"))) (aX (fC .non)) aU)
  (aX (fA df (fV 0 (aa (fS "day") af)))))
def jb:=aZ pD 1 0
def jF:FS :=
  (aD (bt 1 (fA jb (fV 0 af)))
  (aD (dj (bE (f2 FC (aj 1) (fC .non))) (aX (fC (.bl true))) aU)
  (aD (dj (dR (bE (f2 dg (fA bV (fV 0 af)) (fS "chosen"))) (bE (f2 DK (fA df (fV 0 (aa (fS "since") af))) (aj 1)))) (aX (fC (.bl false))) aU)
  (aX (f2 mm (aj 1) (cI 0 0))))))
def gM:=aZ jF 1 1
def pE:FS :=
  (aD (dj (dP (da (bE (fA aC (fV 0 (aa (fC (.ty "tuple")) af))))) (bE (f2 yB (fA cb (fV 0 af)) (fI 2)))) (aX (fC (.bl false))) aU)
  (aX (jP (fA eQ (aa (cI 0 0) af)) (jP (fA jv (aa (cI 0 1) af)) (fA gM (fV 0 af))))))
def du:=aZ pE 1 0
def gN:FS :=
  (aX (bO (iM (aj 0)) 1 [] (fN 0) (bE (f2 dg (fA bV (fV 0 af)) (fS "root"))) (fA df (fV 0 (aa (fS "office") af)))))
def eT:=aZ gN 1 0
def fU:FS :=
  (aX (jP (f2 dg (fA bV (fV 1 af)) (fS "root")) (f2 B1 (fA df (fV 1 (aa (fS "office") af))) (fA eT (fV 0 af)))))
def dB:=aZ fU 2 0
def kW:FS :=
  (aX (IH (f1 (iQ bX) (fA bV (fV 0 af))) (iC (cI 0 1) (bK (fI 1)) bQ)))
def dC:=aZ kW 1 0
def jG:FS :=
  (aD (bt 1 (bO (iM (fA dC (fV 0 af))) 2 [] (CB [0,1]) (dR (bE (f2 B1 (aj 0) (fC cB))) (bE (f2 nA (aj 1) (fC .non)))) (aj 1)))
  (aX (f1 iT (aj 1))))
def cC:=aZ jG 1 1
def gq:FS :=
  (wb 1 (fA cC (fV 2 af)))
def gO:FS :=
  (aD (bt 1 (fA bA af))
  (aD (t8 (iM (aj 0)) (fN 2) gq)
  (aX (f1 iU (aj 1)))))
def eU:=aZ gO 1 2
def jc:FS :=
  (aD (dj (dP (bE (f2 IG (aj 1) (fC de))) (da (bE (fA du (aa (f2 cJ (aj 0) (aj 1)) af))))) (aX (fC (.bl true))) aU)
  (aX (Bs (fA dB (aa (iC (aj 0) bQ (bK (aj 1))) (aa (f2 cJ (aj 0) (aj 1)) af))) (f2 F8 (fA eU (aa (iC (aj 0) bQ (bK (f2 bj (aj 1) (fI 1)))) af)) (fC ia)))))
def bf:=aZ jc 2 0
def gP:FS :=
  (dj (bE (fA bf (fV 1 (fV 2 af)))) jq aU)
def ib:FS :=
  (aD (dj (da (bE (fA dY (fV 0 (aa (fA aB (aa (fC (.ty "list")) (aa (fC (.ty "tuple")) af))) af))))) jq aU)
  (aD (bt 1 (fA c9 (fV 0 af)))
  (aD (fO (bC (fA cb (fV 1 af))) (fN 2) gP)
  (j6 1))))
def dH:=aZ ib 1 2
def jH:FS :=
  (aD (dj (bE (f2 DK (aj 1) (fA cb (fV 0 af)))) (aX (f2 cJ (aj 0) (aj 1))) aU)
  (aX (fI 0)))
def gQ:=aZ jH 2 0
def jI:FS :=
  (aD (bt 4 (f2 bu (f2 bj (f2 bj (f2 bj (f2 qB (aj 4) (aj 4)) (f2 qB (fI 48271) (aj 4))) (aj 5)) (aj 1)) (fI 2147483647)))
  (ni 3 (aj 4)))
def kX:FS :=
  (aD (bt 3 (fA bA af))
  (aD (bt 4 (f2 bu (f2 bj (f2 bj (f2 qB (f2 bu (aj 0) (fI 2147483647)) (fI 48271)) (f2 qB (f2 qB (aj 1) (aj 1)) (fI 69621))) (fI 11)) (fI 2147483647)))
  (aD (fO (bC (aj 2)) (fN 5) jI)
  (j6 3))))
def eV:=aZ kX 3 3
def kY:FS :=
  (aX (f2 bj (f2 bj (f2 cJ (fS "abcdefghij") (f2 bu (aj 0) (fI 10))) (f2 cJ (fS "xy") (f2 bu (f2 im (aj 0) (fI 10)) (fI 2)))) (f2 cJ (fS "pq") (f2 im (aj 0) (fI 20)))))
def aE:=aZ kY 1 0
def mJ:FS :=
  (aD (bt 4 (fA eV (aa (f2 cJ (aj 0) (aj 3)) (fV 3 (aa (fI 3) af)))))
  (dj (bE (f2 dg (f2 bu (cI 4 0) (fI 3)) (fI 0))) (ni 2 (fA aB (aa (f2 bu (cI 4 1) (fI 10000)) (aa (fA aB (aa (fS "root") (aa (f2 bj (f2 bj (f2 cJ (fS "abcdefgh") (f2 bu (aj 3) (fI 8))) (f2 cJ (fS "abcdefgh") (f2 im (aj 3) (fI 8)))) (fS "r")) (aa (fI 7) (aa (fI 2) (aa (fS "last") af)))))) af)))) (ni 2 (fA aB (aa (fI 9999) (aa (fA aB (aa (fS "death") (aa (f2 bu (cI 4 1) (fI 10000)) (aa (fA aE (aa (f2 bu (cI 4 2) (fI 20)) af)) af)))) af))))))
def pF:FS :=
  (aD (bt 2 (fA bA af))
  (aD (fO (jZ (fI 2) (fA yE (aa (fA cb (fV 0 af)) (aa (f2 bj (fI 2) (aj 1)) af)))) (fN 3) mJ)
  (j6 2)))
def kZ:=aZ pF 2 3
def la:FS :=
  (aD (bt 1 (fA bA (aa (fC .non) (aa (fI 7) (aa (fC (.bl true)) (aa (fS "death") (aa (fA bA (aa (fI 9) (aa (fA aB (aa (fS "death") (aa (fI 3) (aa (fS "a") af)))) af))) (aa (fA aB (aa (fS "death") (aa (fI 3) (aa (fS "a") af)))) (aa (fA aB (aa (fI 3) (aa (fA aB (aa (fS "death") (aa (fI 4) (aa (fS "a") af)))) af))) (aa (fA aB af) af))))))))))
  (aD (bt 1 (f2 bj (aj 1) (fA bA (aa (fA aB (aa (fI 9999) (aa (fA aB (aa (fS "death") (aa (fI 10000) (aa (fS "a") af)))) af))) (aa (fA aB (aa (fI 9) (aa (fA aB (aa (fS "root") (aa (fS "office") (aa (fI 256) (aa (fI 1) (aa (fS "open") af)))))) af))) (aa (fA aB (aa (fI 9) (aa (fA aB (aa (fS "call") (aa (fI 3) (aa (fS "a") (aa (fI 60) af))))) af))) af))))))
  (aD (bt 1 (f2 bj (aj 1) (fA bA (aa (fA aB (aa (fI 9) (aa (fA aB (aa (fS "root") (aa (fS "office") (aa (fI 1) (aa (fI 10) (aa (fS "open") af)))))) af))) (aa (fA aB (aa (fI 9) (aa (fA aB (aa (fS "copy") (aa (fI 3) (aa (fS "A") (aa (fI 1) af))))) af))) (aa (fA aB (aa (fI 9) (aa (fA bA (aa (fS "death") (aa (fI 3) (aa (fS "a") af)))) af))) af))))))
  (aD (bt 1 (f2 bj (aj 1) (fA bA (aa (fA aB (aa (fI 9) (aa (fA aB (aa (fS "died") (aa (fI 3) (aa (fS "a") af)))) af))) (aa (fA aB (aa (fI 9) (aa (fA aB (aa (fS "leave") (aa (fI 3) (aa (fS "a") (aa (fS "b") (aa (fI 1) (aa (fA aB (aa (fI 4) (aa (fI 4) af))) (aa (fI 0) af)))))))) af))) (aa (fA aB (aa (fI 10000) (aa (fA aB (aa (fS "death") (aa (fI 3) (aa (fS "a") af)))) af))) af))))))
  (aX (f2 cJ (aj 1) (f2 bu (aj 0) (fA cb (fV 1 af)))))))))
def dD:=aZ la 1 1
def jJ:FS :=
  (aD (bt 2 (bO (bC (fI 20)) 1 [] (fN 0) dz (fA aB (aa (fI 9999) (aa (fA aB (aa (fS "death") (aa (fI 1) (aa (fA aE (fV 0 af)) af)))) af)))))
  (aD (bt 3 (fA aB (aa (fS "leave") (aa (fI 5) (aa (fA aE (aa (fI 20) af)) (aa (fA aE (aa (f2 bu (cI 1 2) (fI 20)) af)) (aa (fI 1) (aa (fA aB (aa (fI 0) (aa (fC .non) af))) (aa (fI 0) af)))))))))
  (aD (dj (bE (f2 dg (f2 bu (cI 1 1) (fI 2)) (fI 0))) (bt 3 (fA aB (aa (fS "paper") (aa (fI 5) (aa (fA aE (aa (f2 bu (cI 1 2) (fI 20)) af)) (aa (fI 1) (aa (fA aB (aa (fI 0) (aa (fC .non) af))) (aa (fA aE (aa (fI 20) af)) (aa (fA aB (aa (fS "a") af)) af))))))))) aU)
  (aD (bt 2 (f2 bj (iC (aj 2) (bK (f2 bu (cI 1 2) (fI 20))) bQ) (iC (aj 2) bQ (bK (f2 bu (cI 1 2) (fI 20))))))
  (aD (bt 4 (iC (bO (iM (aj 0)) 1 [] (fN 0) (bE (f2 dg (f2 cJ (cI 0 1) (fI 0)) (fS "root"))) (aj 0)) bQ (bK (fI 20))))
  (aD (bt 5 (f2 bu (cI 1 3) (f2 bj (fA cb (fV 4 af)) (fI 1))))
  (aX (fA bA (aa (f2 bj (f2 bj (f2 bj (iC (aj 4) bQ (bK (aj 5))) (aj 2)) (fA bA (aa (fA aB (aa (fI 9) (fV 3 af))) af))) (iC (aj 4) (bK (aj 5)) bQ)) (aa (f2 bj (aj 5) (fI 20)) af))))))))))
def dJ:=aZ jJ 2 4
def pG:FS :=
  (aD (bt 2 (f2 bu (cI 1 0) (fI 6)))
  (aD (bt 3 (f2 bu (cI 1 1) (f2 bj (fA cb (fV 0 af)) (fI 1))))
  (aD (dj (bE (f2 dg (aj 2) (fI 0))) (aX (fA bA (aa (f2 cJ (fA bA (aa (fC .non) (aa (fI 7) (aa (fS "rows") (aa GV (aa (fC (.bl true)) (aa (fS "") (aa (fA aB (aa (fI 9) (aa (fI 9) af))) af)))))))) (f2 bu (cI 1 1) (fI 6))) (aa (fC .non) af)))) aU)
  (aD (dj (bE (f2 dg (aj 2) (fI 1))) (aX (fA dJ (fV 0 (fV 1 af)))) aU)
  (aD (bt 4 (bO (bC (fA cb (fV 0 af))) 1 [0] (fN 0) (bE (f2 dg (f2 cJ (f2 cJ (f2 cJ (aj 1) (aj 0)) (fI 1)) (fI 0)) (fS "root"))) (aj 0)))
  (aD (dj (dR (bE (f2 dg (aj 2) (fI 2))) (bE (f2 F8 (fA cb (fV 4 af)) (fI 0)))) (aD (bt 5 (f2 cJ (aj 4) (f2 bu (cI 1 2) (fA cb (fV 4 af)))))
  (aD (bt 6 (fA aB (aa (f2 bu (cI 1 3) (fI 10000)) (aa (fA aB (aa (fS "root") (aa (f2 cJ (f2 cJ (f2 cJ (aj 0) (aj 5)) (fI 1)) (fI 1)) (aa (f2 bj (fI 1) (f2 bu (cI 1 3) (fI 255))) (aa (fI 0) (aa (fS "open") af)))))) af))))
  (aD (dj (bE (f2 mm (aj 3) (aj 5))) (aX (fA bA (aa (f2 bj (f2 bj (iC (aj 0) bQ (bK (aj 3))) (fA bA (fV 6 af))) (iC (aj 0) (bK (aj 3)) bQ)) (aa (f2 bj (aj 5) (fI 1)) af)))) aU)
  (aX (fA bA (aa (f2 bj (f2 bj (iC (aj 0) bQ (bK (aj 3))) (fA bA (fV 6 af))) (iC (aj 0) (bK (aj 3)) bQ)) (fV 3 af))))))) aU)
  (aD (dj (bE (f2 dg (aj 2) (fI 3))) (aD (bt 7 (f2 bj (aj 0) (bO (bC (f2 lK (fI 61) (fA cb (fV 0 af)))) 1 [] (fN 0) dz (fA aB (aa (fI 9999) (aa (fA aB (aa (fS "death") (fV 0 (aa (fS "axp") af)))) af))))))
  (aX (fA bA (fV 7 (aa (fI 60) af))))) aU)
  (aX (fA bA (aa (f2 bj (f2 bj (iC (aj 0) bQ (bK (aj 3))) (fA bA (aa (fA dD (aa (cI 1 2) af)) af))) (iC (aj 0) (bK (aj 3)) bQ)) (fV 3 af)))))))))))
def lb:=aZ pG 2 6
def Az:FS :=
  (dj (bE (fA bf (fV 1 (fV 2 af)))) (aX (aj 2)) aU)
def gx:FS :=
  (aD (dj (da (bE (fA dY (fV 0 (aa (fA aB (aa (fC (.ty "list")) (aa (fC (.ty "tuple")) af))) af))))) (aX (fC .non)) aU)
  (aD (bt 1 (fA c9 (fV 0 af)))
  (aD (fO (bC (fA cb (fV 1 af))) (fN 2) Az)
  jq)))
def bp:List D->OB:=jA gx 1 2
noncomputable def le:D->D->Bool
 |.non,.non=>true
 |.int i,.int j=>decide (i=j)
 |_,_=>false
def cD:List D->OB
 |[th,a,.bl _]=>(bp [th]).bind λr=>if le r.1 a=true then some (.bl true,false)else none
 |_=>none
def A0:FS :=
  (aD (bt 1 (fA kZ (fV 0 (aa (fI 40) af))))
  (aD (bt 2 (fA eV (aa (fA gQ (fV 0 (aa (fI 0) af))) (aa (fI 80) (aa (fI 5) af)))))
  (aD (mq [3,4] (fA lb (fV 1 (fV 2 af))))
  (aD (dj (dR (bE (fA aC (fV 3 (aa (fC (.ty "list")) af)))) (bE (f2 dg (f2 bu (f2 im (cI 2 4) (fI 4)) (fI 4)) (fI 1)))) (bt 3 (f2 bj (aj 3) (fA bA (aa (fA dD (aa (cI 2 1) af)) af)))) aU)
  (aD (dj (dR (bE (fA aC (fV 3 (aa (fC (.ty "list")) af)))) (bE (f2 dg (f2 bu (f2 im (cI 2 4) (fI 4)) (fI 4)) (fI 2)))) (bt 3 (f2 bj (aj 3) (bO (bC (f2 lK (fI 62) (fA cb (fV 3 af)))) 1 [] (fN 0) dz (fA aB (aa (fI 9999) (aa (fA aB (aa (fS "death") (aa (fI 7) (aa (fA aE (aa (f2 bu (aj 0) (fI 20)) af)) af)))) af)))))) aU)
  (aD (dj (dR (bE (fA aC (fV 3 (aa (fC (.ty "list")) af)))) (bE (f2 dg (f2 bu (f2 im (cI 2 4) (fI 4)) (fI 4)) (fI 3)))) (aD (bt 3 (f2 bj (aj 3) (bO (bC (fI 30)) 1 [] (fN 0) dz (fA aB (aa (fI 9999) (aa (fA aB (aa (fS "death") (aa (fI 7) (aa (fA aE (fV 0 af)) af)))) af))))))
  (bt 3 (f2 bj (aj 3) (yP (fA bA (aa (fA aB (aa (fI 9) (aa (fA aB (aa (fS "root") (aa (fS "q") (aa (fI 1) (aa (fI 1) (aa (fS "open") af)))))) af))) af)) (fI 2))))) aU)
  (aD (dj (dR (bE (fA aC (fV 3 (aa (fC (.ty "list")) af)))) (bE (f2 dg (f2 bu (cI 2 4) (fI 2)) (fI 0)))) (bt 3 (fA c9 (fV 3 af))) aU)
  (aD (dj (da (bE (fA cD (fV 3 (fV 4 (aa (f2 dg (f2 bu (f2 im (cI 2 4) (fI 2)) (fI 2)) (fI 0)) af)))))) (aX (fC (.bl false))) aU)
  (aD (dj (bE (f2 yB (fA dH (fV 1 af)) (fA c9 (fV 1 af)))) (aX (fC (.bl false))) aU)
  (aX (fA cD (fV 3 (fV 4 (aa (f2 dg (f2 bu (f2 im (cI 2 4) (fI 2)) (fI 2)) (fI 1)) af))))))))))))))
def F_law:=aZ A0 1 4
end Lw
namespace DL
open PySem L2
theorem lf:∀(n m:Nat)(d:D),n<=m->aM n d=true->aM m d=true
 |n,m,.non,_,_=>by simp
 |n,m,.bl _,_,_=>by simp
 |n,m,.int _,_,_=>by simp
 |n,m,.str _,_,_=>by simp
 |n,m,.ty _,_,h=>by cases n<;>simp[aM]at h
 |n,m,.dk _ _,_,h=>by simp at h
 |n,m,.dt _ _,_,h=>by simp at h
 |0,m,.tup _,_,h=>by simp[aM]at h
 |0,m,.lst _,_,h=>by simp[aM]at h
 |n+1,0,_,h,_=>by omega
 |n+1,m+1,.tup ds,hl,h=>by
  simp only[aM,List.all_eq_true]at h ⊢;exact λd hd=>lf n m d (by omega) (h d hd)
 |n+1,m+1,.lst ds,hl,h=>by
  simp only[aM,List.all_eq_true]at h ⊢;exact λd hd=>lf n m d (by omega) (h d hd)
theorem jw:∀(ds:List D),(∀d∈ds,cF d d=true)->gw ds ds=true
 |[],_=>by simp only[gw]
 |d::ds,h=>by
  simp only[gw,h d mX,Bool.true_and];exact jw ds λe he=>h e (mZ _ he)
theorem lg:∀(n:Nat)(d:D),aM n d=true->cF d d=true
 |n,.non,_=>by simp
 |n,.bl _,_=>by simp
 |n,.int _,_=>by simp
 |n,.str _,_=>by simp
 |n,.ty _,h=>by cases n<;>simp[aM]at h
 |n,.dk _ _,h=>by simp at h
 |n,.dt _ _,h=>by simp at h
 |0,.tup _,h=>by simp[aM]at h
 |0,.lst _,h=>by simp[aM]at h
 |n+1,.tup ds,h=>by
  simp only[aM,List.all_eq_true]at h;simp only[cF];exact jw ds λd hd=>lg n d (h d hd)
 |n+1,.lst ds,h=>by
  simp only[aM,List.all_eq_true]at h;simp only[cF];exact jw ds λd hd=>lg n d (h d hd)
end DL
namespace Lw
open PySem DL L2
theorem A1 (d:D)(r:List D):md (d::r) 0=some d:=by have:=eO (xs:=d::r) (j:=0) (by simp);simpa using this
theorem A2 (d e:D)(r:List D):md (d::e::r) 1=some e:=by have:=eO (xs:=d::e::r) (j:=1) (by simp);simpa using this
theorem jK (zs:List Str):bi (zs.map D.str)=true:=by
 induction zs with
 |nil=>rfl
 |cons a l ih=>simp[ih]
theorem eW {ds:List D}(h:∀d∈ds,bw d=true):bi ds=true:=by
 induction ds with
 |nil=>rfl
 |cons d r ih=>simp[h d (by simp),ih λe he=>h e (by simp[he])]
theorem En (d:D)(r:List D):jQ (d::r) (some 1) none=r:=by
 unfold jQ;rw[wN (v:=1) (by decide)];have:HT.c7 (d::r).length (d::r).length none=(d::r).length:=rfl;rw[this];have:min (1:Int).toNat (d::r).length=1:=by simp
 rw[this];simp
theorem lh (ak:List D)(n:Nat):jQ ak none (some (n:Int))=ak.take n:=by
 unfold jQ;rw[HT.oy,HT.rG];simp
theorem sI {op:D->OB}{fa:FE}{ρ:DL.Env}{x:D}{b:Bool}{z:OB}(e1:fa ρ=some (x,b))(e2:op x=z):f1 op fa ρ=z:=by unfold f1;rw[e1];exact e2
theorem pH (parts:List Str)(aA:List D):fB (parts.map .str) aA=(parts.zip aA).map λx=>.tup [.str x.1,x.2]:=by
 induction parts generalizing aA with
 |nil=>rfl
 |cons a l ih=>
  cases aA with
  |nil=>rfl
  |cons d r=>have:=ih r;unfold fB at this ⊢;simp[this]
theorem wO {α:Type}(l:List α):nE [.lst (l.map λ_=>.bl true)]=some (.bl true,false):=by
 have:=pB (λ_:α=>true) l;simp only[nE,this,Option.map_some];congr 2;simp
noncomputable def sJ (c:Nat):Bool:=decide (97<=c) && decide (c<=122)
theorem BU:("a" : Str)=⟨#[97]⟩:=by decide +kernel
theorem BV:("z" : Str)=⟨#[122]⟩:=by decide +kernel
theorem pI (c:Nat)(ρ:DL.Env)(h:ρ[0]? = some (some (.str ⟨#[c]⟩,false))):eI mm mm (fC (.str "a")) (aj 0) (fC (.str "z")) ρ=some (.bl (sJ c),false):=by
 refine kQ (x:=.str ⟨#[97]⟩) (y:=.str ⟨#[c]⟩) (z:=.str ⟨#[122]⟩) (b1:=false) (b2:=false) (b3:=false) (b4:=false) ?_ ?_ ?_ (sF _ _) λ_=>sF _ _
 ·rw[BU];rfl
 ·simp[h]
 ·rw[BV];rfl
noncomputable def pJ (z:Str):Bool:=(decide (1<=z.length) && decide (z.length<=8)) && z.cps.toList.all sJ
theorem wP (z:Str):z.cps.toList.length=z.length:=by simp[Str.length]
theorem gR {z:Str}(h:pJ z=true):e8 [.str z]=some (.bl true,false):=by
 unfold pJ at h;rw[vC,vC]at h;obtain⟨⟨h1,h8⟩,ha⟩:=h;have h1:=of_decide_eq_true h1;have h8:=of_decide_eq_true h8;have hl:z.length<=sizeLine:=eP (by omega);refine aF rfl (aH (cN (p:=false) (q:=false) (by simp) λ_=>dZ (p:=true) (aN (b:=false) ((kQ (x:=.int 1) (y:=.int z.length) (z:=.int 8) (b1:=false) (b2:=false) (b3:=false) (b4:=false) (p:=true) (q:=true) rfl (by simp[hl]) rfl (by simp;omega) λ_=>by simp;omega).trans rfl))) (aR (ai (ds:=[.lst (z.cps.toList.map λc=>.bl (sJ c))]) ?_ ?_)))
 ·have:=mB (fi:=iM (aj 0)) (nT:=1) (cap:=[]) (tg:=fN 0) (fe:=eI mm mm (fC (.str "a")) (aj 0) (fC (.str "z"))) (ρ:=[some (.str z,false)]) z.cps.toList (λc=>.str ⟨#[c]⟩) (λc=>.bl (sJ c)) (by simp[ud]) (by rw[wP];omega) λc _=>
   ⟨_,rfl,false,pI c _ (by simp[fm])⟩
  exact aq (b:=true) this rfl
 ·simp only[nE,pB,Option.map_some,List.all_map];congr 2;exact congrArg D.bl ha
theorem jx {d lo hi:Int}(h1:lo<=d)(h2:d<=hi):cW [.int d,.int lo,.int hi]=some (.bl true,false):=by
 refine aF rfl (aR ((kR (p:=true) (q:=true) (b1:=false) (by simp) λ_=>(kR (p:=true) (q:=true) (b1:=false) (ze (p:=false) (b1:=false) (by simp)) λ_=>(kQ (x:=.int lo) (y:=.int d) (z:=.int hi) (b1:=false) (b2:=false) (b3:=false) (b4:=false) (p:=true) (q:=true) rfl rfl rfl (by simp;omega) λ_=>by simp;omega).trans rfl).trans rfl).trans rfl))
theorem jd {d:Int}(h1:0<=d)(h2:d<=9999):eQ [.int d]=some (.bl true,false):=aF rfl (aR (ai (ds:=[.int d,.int 0,.int 9999]) rfl (jx h1 h2)))
theorem gS {d:Int}(h1:1<=d)(h2:d<=255):em [.int d]=some (.bl true,false):=aF rfl (aR (ai (ds:=[.int d,.int 1,.int 255]) rfl (jx h1 h2)))
theorem jL {d:Int}(h1:0<=d)(h2:d<=9999):ej [.tup [.int d,.non]]=some (.bl true,false):=by
 refine aF rfl (aH (cN (p:=false) (q:=false) (by simp) λ_=>cN (p:=false) (q:=false) (by simp) λ_=>dZ (p:=true) (aN (b:=false) (ai (ds:=[.int d]) (by simp[A1]) (jd h1 h2)))) (aR ((Ay (p:=true) (q:=true) (b1:=false) (by simp[A2,ny]) (by simp)).trans rfl)))
theorem cq {p q:Str}{v:D}{b:Bool}(h:decide (p=q)=b):bE (f2 dg (aj 0) (fC (.str q))) [some (.str p,false),some (v,false)]=some b:=aN (b:=false) (aS (x:=.str p) (y:=.str q) (b1:=false) (b2:=false) rfl rfl (by simp[←h]))
theorem c2 {p q r:Str}{v:D}(h:(decide (p=q) || decide (p=r))=false):dP (bE (f2 dg (aj 0) (fC (.str q)))) (bE (f2 dg (aj 0) (fC (.str r)))) [some (.str p,false),some (v,false)]=some false:=(cN (cq rfl) λ_=>cq rfl).trans (by rw[h])
theorem c3 {p q r t:Str}{v:D}(h:(decide (p=q) || (decide (p=r) || decide (p=t)))=false):dP (bE (f2 dg (aj 0) (fC (.str q)))) (dP (bE (f2 dg (aj 0) (fC (.str r)))) (bE (f2 dg (aj 0) (fC (.str t))))) [some (.str p,false),some (v,false)]=some false:=(cN (cq rfl) λ_=>cN (cq rfl) λ_=>cq rfl).trans (by rw[h])
theorem Kv {p q r:Str}{v:D}(h:(decide (p=q) || decide (p=r))=true):dP (bE (f2 dg (aj 0) (fC (.str q)))) (bE (f2 dg (aj 0) (fC (.str r)))) [some (.str p,false),some (v,false)]=some true:=(cN (cq rfl) λ_=>cq rfl).trans (by rw[h])
theorem Kw {p q r t:Str}{v:D}(h:(decide (p=q) || (decide (p=r) || decide (p=t)))=true):dP (bE (f2 dg (aj 0) (fC (.str q)))) (dP (bE (f2 dg (aj 0) (fC (.str r)))) (bE (f2 dg (aj 0) (fC (.str t))))) [some (.str p,false),some (v,false)]=some true:=(cN (cq rfl) λ_=>cN (cq rfl) λ_=>cq rfl).trans (by rw[h])
theorem je {p:Str}{v:D}(h0:(decide (p=("day" : Str)) || decide (p=("since" : Str)))=false)(hp:(decide (p=("office" : Str)) || (decide (p=("by" : Str)) || decide (p=("person" : Str))))=true)(h:e8 [v]=some (.bl true,false)):bU [.str p,v]=some (.bl true,false):=aF rfl (aH (c2 h0) (cM (Kw hp) (aR (ai (ds:=[v]) rfl h))))
theorem qX {p:Str}{v:D}(hp:(decide (p=("day" : Str)) || decide (p=("since" : Str)))=true)(h:eQ [v]=some (.bl true,false)):bU [.str p,v]=some (.bl true,false):=aF rfl (cM (Kv hp) (aR (ai (ds:=[v]) rfl h)))
theorem i7 {v:D}(h:em [v]=some (.bl true,false)):bU [.str "matters",v]=some (.bl true,false):=aF rfl (aH (c2 (by decide +kernel)) (aH (c3 (by decide +kernel)) (aH (cq (by decide +kernel)) (cM (cq (by decide +kernel)) (aR (ai (ds:=[v]) rfl h))))))
theorem li {v:D}(h:ej [v]=some (.bl true,false)):bU [.str "stretch",v]=some (.bl true,false):=aF rfl (aH (c2 (by decide +kernel)) (aH (c3 (by decide +kernel)) (aH (cq (by decide +kernel)) (aH (cq (by decide +kernel)) (cM (cq (by decide +kernel)) (aR (ai (ds:=[v]) rfl h)))))))
theorem lj {d:Int}(h1:0<=d)(h2:d<=9):bU [.str "further",.int d]=some (.bl true,false):=aF rfl (aH (c2 (by decide +kernel)) (aH (c3 (by decide +kernel)) (aH (cq (by decide +kernel)) (aH (cq (by decide +kernel)) (aH (cq (by decide +kernel)) (cM (cq (by decide +kernel)) (aR (ai (ds:=[.int d,.int 0,.int 9]) rfl (jx h1 h2)))))))))
noncomputable def row (h:Int)(kind:Str)(aA:List D):D:=.tup [.int h,.tup (.str kind::aA)]
noncomputable def qY (z:Str):Bool:=Aj (.str z) [.str "by",.str "person",.str "whom"]
noncomputable def there:D->Bool
 |.non=>false
 |_=>true
@[simp] theorem GX:there .non=false:=rfl
@[simp] theorem GY (z:Str):there (.str z)=true:=rfl
@[simp] theorem GZ (z:Int):there (.int z)=true:=rfl
@[simp] theorem Ha (z:List D):there (.tup z)=true:=rfl
theorem pK (d:D)(h:yF d=false):nA d .non=some (.bl (there d),false):=by
 cases d<;>simp[ny,there]at h ⊢
noncomputable def Hb (l:List (Str×D)):List D:=(l.filter λx=>qY x.1 && there x.2).map (·.2)
structure DeedG (h:Int)(kind:Str)(aA:List D)(ss:List Str):Prop where
 parts:∃(parts:List Str),iQ bX (.str kind)=some (.tup (parts.map .str),false)/\parts.length=aA.length/\(∀x∈parts.zip aA,bU [.str x.1,x.2]=some (.bl true,false))/\Hb (parts.zip aA)=ss.map .str
 ss2:ss.length<=2
 len:aA.length<=10
 flat:∀d∈aA,bw d=true/\yF d=false
 day:(kind=("root" : Str)/\∃o r,aA=.str o::r)∨(kind≠("root" : Str)/\(∃(day:Int)(r:List D),aA=.int day::r/\day<=h/\0<=day/\(kind=("chosen" : Str)->∃a b c s,r=[a,b,c,.int s]/\day<=s))/\pv bX (.str kind) (.str "day")=some (.int 0,false))
def fY (r:D)(ss:List Str):Prop:=∃h kind aA,r=row h kind aA/\0<=h/\h<=9999/\DeedG h kind aA ss
theorem gW (h:Int)(kind:Str)(aA:List D):bV [row h kind aA]=some (.str kind,false):=aF rfl (aR (by simp[row,A2,A1]))
theorem nQ {h:Int}{k:Str}{aA:List D}{part:Str}{i:Nat}{d:D}(hi:pv bX (.str k) (.str part)=some (.int i,false))(hd:aA[i]? = some d):df [row h k aA,.str part]=some (d,false):=by
 refine aF rfl (aR ?_);refine aS (x:=.tup (.str k::aA)) (y:=.int (1+i)) (b1:=false) (b2:=false) (by simp[row,A2]) (aS (x:=.int 1) (y:=.int i) (b1:=false) (b2:=false) rfl (aS (x:=.str k) (y:=.str part) (b1:=false) (b2:=false) (ai (ds:=[row h k aA]) rfl (gW _ _ _)) rfl hi) (by simp)) ?_;have fH:i<aA.length:=(vV hd).1;have:md (.str k::aA) (1+(i:Int))=some d:=by
  have:=eO (xs:=(.str k:D)::aA) (j:=i+1) (by simp;omega);rw[show(1+(i:Int))=((i+1:Nat):Int) by omega,this];simp only[List.getElem_cons_succ];rw[vU fH]at hd;exact hd
 simp[this]
theorem BW (k q:Str):dg (.str k) (.str q)=some (.bl (decide (k=q)),false):=by simp
noncomputable def wQ:D->D
 |.tup [_,.tup (.str _::.int d::_)]=>.int d
 |_=>.non
theorem zg {h:Int}{kind:Str}{aA:List D}(g:DeedG h kind aA ss):jb [row h kind aA]=some (wQ (row h kind aA),false):=by
 rcases g.day with⟨e,o,r,rfl⟩|⟨e,⟨day,r,rfl,_⟩,hi⟩
 ·exact aF rfl (cM (aN (b:=false) (aS (x:=.str kind) (y:=.str "root") (b1:=false) (b2:=false) (ai (ds:=[row h kind (.str o::r)]) rfl (gW _ _ _)) rfl (by rw[BW,decide_eq_true e]))) (aR rfl))
 ·exact aF rfl (aH (aN (b:=false) (aS (x:=.str kind) (y:=.str "root") (b1:=false) (b2:=false) (ai (ds:=[row h kind (.int day::r)]) rfl (gW _ _ _)) rfl (by rw[BW,decide_eq_false e]))) (aR (ai (ds:=[row h kind (.int day::r),.str "day"]) rfl (nQ (i:=0) hi rfl))))
theorem wR {h:Int}{kind:Str}{aA:List D}(g:DeedG h kind aA ss):jv [.tup (.str kind::aA)]=some (.bl true,false):=by
 obtain⟨parts,hp,hl,ha,_⟩:=g.parts;have Mh:(bX.lookup kind).isSome=true:=by
  simp only[iQ]at hp;obtain⟨d,h1,_⟩:=oY hp;rw[h1];rfl
 have hsz:=g.len;have e0:f2 cJ (aj 0) (fC (.int 0)) [some (.tup (.str kind::aA),false)]=some (.str kind,false):=by simp[A1]
 have eg:f1 (iQ bX) (f2 cJ (aj 0) (fC (.int 0))) [some (.tup (.str kind::aA),false)]=some (.tup (parts.map .str),false):=sI (x:=.str kind) (b:=false) e0 hp;refine aF rfl (aH (cN (p:=false) (q:=false) (by simp) λ_=>cN (p:=false) (q:=false) (aN (b:=false) (by simp;omega)) λ_=>dZ (p:=true) (aN (b:=false) (ai (ds:=[.str kind,.ty "str"]) (aq e0 rfl) (by simp)))) (aH (cN (p:=false) (q:=false) (aN (b:=false) (sI (x:=.str kind) (b:=false) e0 ?_)) λ_=>aN (b:=false) (aS (x:=.int ((aA.length+1:Nat):Int)) (y:=.int (1+(parts.length:Int))) (b1:=false) (b2:=false) (by simp) (aS (x:=.int 1) (y:=.int parts.length) (b1:=false) (b2:=false) rfl (ai (ds:=[.tup (parts.map .str)]) (aq eg rfl) (by simp)) (by simp)) ?_)) (aR (ai (ds:=[.lst ((parts.zip aA).map λ_=>.bl true)]) ?_ (wO _)))))
 ·simp only[kD,Mh];rfl
 ·simp;omega
 ·have:=mB (fi:=vK (f1 (iQ bX) (f2 cJ (aj 0) (fC (.int 0)))) (iC (aj 0) (bK (fC (.int 1))) bQ)) (nT:=2) (cap:=[]) (tg:=CB [0,1]) (fe:=fA bU (aa (aj 0) (aa (aj 1) af))) (ρ:=[some (.tup (.str kind::aA),false)]) (parts.zip aA) (λx=>.tup [.str x.1,x.2]) (λ_=>.bl true)
   (by
    show(f1 (iQ bX) _ _).bind _=_;rw[eg];simp[En,pH]) (by rw[List.length_zip];omega) λx hx=>by
    have CW:=g.flat x.2 (List.of_mem_zip hx).2;exact⟨_,rfl,false,ai (ds:=[.str x.1,x.2]) (by simp[fm]) (ha x hx)⟩
  exact aq (b:=true) this rfl
theorem ue (r:D):bw (wQ r)=true:=by
 unfold wQ;split<;>rfl
theorem qZ {h:Int}{kind:Str}{aA:List D}(g:DeedG h kind aA ss):gM [row h kind aA]=some (.bl true,false):=by
 have hd:=zg g;have zN:∀ {hh:FS}{r:Option Res},hh [some (row h kind aA,false),some (wQ (row h kind aA),false)]=r->aD (bt 1 (fA jb (aa (aj 0) af))) hh [some (row h kind aA,false),none]=r:=λe=>fE (d:=wQ (row h kind aA)) (b:=false) (ai (ds:=[row h kind aA]) rfl hd) (ue _) e;rcases g.day with⟨e,o,r,rfl⟩|⟨e,⟨day,r,rfl,HN,MA,uz⟩,hi⟩
 ·exact aF rfl (zN (cM (aN (b:=false) (aS (x:=.non) (y:=.non) (b1:=false) (b2:=false) rfl rfl (by simp[ny]))) (aR rfl)))
 ·refine aF rfl (zN (aH (aN (b:=false) (aS (x:=.int day) (y:=.non) (b1:=false) (b2:=false) rfl rfl (by simp[ny]))) (aH ((iW (p:=decide (kind=("chosen" : Str))) (q:=false) (aN (b:=false) (aS (x:=.str kind) (y:=.str "chosen") (b1:=false) (b2:=false) (ai (ds:=[row h kind (.int day::r)]) rfl (gW _ _ _)) rfl (BW _ _))) λhc=>?_).trans (by rw[Bool.and_false])) (aR ?_))))
  ·have hc:=of_decide_eq_true hc;subst hc;obtain⟨a,b,c,s,rfl,hs⟩:=uz rfl;refine aN (b:=false) (aS (x:=.int s) (y:=.int day) (b1:=false) (b2:=false) (ai (ds:=[row h ("chosen" : Str) [.int day,a,b,c,.int s],.str "since"]) rfl (nQ (i:=4) (cy (by decide +kernel)) rfl)) rfl ?_);simp;omega
  ·refine aS (x:=.int day) (y:=.int h) (b1:=false) (b2:=false) rfl (by simp[row,A1]) ?_;simp;omega
theorem zh {r:D}(g:fY r ss):du [r]=some (.bl true,false):=by
 obtain⟨h,kind,aA,rfl,h0,h1,g⟩:=g;refine aF rfl (aH (cN (p:=false) (q:=false) (by simp[row]) λ_=>by simp[row]) (aR ((kR (p:=true) (q:=true) (b1:=false) (ai (ds:=[.int h]) (by simp[row,A1]) (jd h0 h1)) λ_=>(kR (p:=true) (q:=true) (b1:=false) (ai (ds:=[.tup (.str kind::aA)]) (by simp[row,A2]) (wR g)) λ_=>ai (ds:=[row h kind aA]) rfl (qZ g)).trans rfl).trans rfl)))
noncomputable def kindOf:D->Str
 |.tup [_,.tup (.str k::_)]=>k
 |_=>("" : Str)
def bx (r:D):Bool:=decide (kindOf r=("root" : Str))
noncomputable def dL:D->Str
 |.tup [_,.tup (_::.str o::_)]=>o
 |_=>("" : Str)
theorem zi:pv bX (.str "root") (.str "office")=some (.int 0,false):=cy (by decide +kernel)
theorem pL {r:D}(g:fY r ss)(h:bx r=true):df [r,.str "office"]=some (.str (dL r),false):=by
 obtain⟨a,kind,aA,rfl,_,_,g⟩:=g;have h:kind=("root" : Str):=of_decide_eq_true h;subst h;rcases g.day with⟨_,o,r,rfl⟩|⟨e,_⟩
 ·exact nQ (i:=0) zi rfl
 ·exact absurd rfl e
theorem ll {r:D}(g:fY r ss):bV [r]=some (.str (kindOf r),false):=by
 obtain⟨a,kind,aA,rfl,_⟩:=g;exact gW _ _ _
theorem wS (k:Str)(ws:List Str):Aj (.str k) (ws.map .str)=decide (k∈ws):=by
 induction ws with
 |nil=>simp[Aj]
 |cons w ws ih=>
  have:Aj (.str k) ((w::ws).map .str)=(cF (.str w) (.str k) || Aj (.str k) (ws.map .str)):=rfl;rw[this,ih,oE];by_cases e:w=k
  ·simp[e]
  ·have e':¬k=w:=λz=>e z.symm;simp[e,e']
theorem uf (ws:List Str):(ws.map D.str).all eK=true:=by
 induction ws with
 |nil=>rfl
 |cons w ws ih=>simp[eK]
theorem pM (zs:List Str):gI (zs.map .str)=some zs:=by
 induction zs with
 |nil=>rfl
 |cons z zs ih=>simp[ih]
theorem zj (k:Str)(ws:List Str):B1 (.str k) (.lst (ws.map .str))=some (.bl (decide (k∈ws)),false):=by
 simp only[B1,gn,vI,wS];rw[if_pos ⟨rfl,uf ws⟩]
def pN (ak:List D):Prop:=∀r∈ak,∃ss,fY r ss
theorem ra {ak:List D}(g:pN ak)(hl:ak.length<=200):eT [.tup ak]=some (.lst (((ak.filter bx).map dL).map .str),true):=by
 have hc:=pA (fi:=iM (aj 0)) (nT:=1) (cap:=[]) (tg:=fN 0) (c:=bE (f2 dg (fA bV (aa (aj 0) af)) (fC (.str "root")))) (fe:=fA df (aa (aj 0) (aa (fC (.str "office")) af))) (ρ:=[some (.tup ak,false)]) ak (λx=>x) bx (λx=>.str (dL x)) (by simp) (by omega) λx hx=>by
  obtain⟨ss,gx⟩:=g x hx;exact⟨_,rfl,aN (b:=false) (aS (x:=.str (kindOf x)) (y:=.str "root") (b1:=false) (b2:=false) (ai (ds:=[x]) (by simp[fm]) (ll gx)) rfl (BW _ _)),λhx=>⟨false,ai (ds:=[x,.str "office"]) (by simp[fm]) (pL gx hx)⟩⟩
 rw[List.map_map];exact aF rfl (aR hc)
def nR (ak:List D)(r:D):Bool:=bx r && decide (dL r∈(ak.filter bx).map dL)
theorem ug {ak:List D}{r:D}(g:pN ak)(hl:ak.length<=200)(gr:fY r ss):dB [.tup ak,r]=some (.bl (nR ak r),false):=by
 refine aF rfl (aR (kR (p:=bx r) (q:=decide (dL r∈(ak.filter bx).map dL)) (b1:=false) (aS (x:=.str (kindOf r)) (y:=.str "root") (b1:=false) (b2:=false) (ai (ds:=[r]) rfl (ll gr)) rfl (BW _ _)) λFt=>?_));refine aS (x:=.str (dL r)) (y:=.lst (((ak.filter bx).map dL).map .str)) (b1:=false) (b2:=true) (ai (ds:=[r,.str "office"]) rfl (pL gr Ft)) (ai (ds:=[.tup ak]) rfl (ra g hl)) ?_;rw[zj]
theorem pO:∀(ss ts:List Str){x:Str},x∈ss.foldl fD ts->x∈ts∨x∈ss
 |[],ts,x,h=>.inl h
 |y::ss,ts,x,h=>by
  rw[List.foldl_cons]at h;rcases pO ss (fD ts y) h with h|h
  ·rcases kE.mp h with h|h
   ·exact .inl h
   ·exact .inr (h ▸ mX)
  ·exact .inr (mZ _ h)
theorem lm:∀(ss ts:List Str),ts.Nodup->(ss.foldl fD ts).Nodup
 |[],ts,h=>h
 |y::ss,ts,h=>lm ss (fD ts y) (qJ h y)
theorem pP {ss:List Str}{x:Str}(h:x∈dQ ss):x∈ss:=by
 rcases pO ss [] h with h|h
 ·cases h
 ·exact h
theorem mK:∀(ss ts:List Str){x:Str},x∈ts∨x∈ss->x∈ss.foldl fD ts
 |[],ts,x,h=>h.elim id λz=>nomatch z
 |y::ss,ts,x,h=>by
  rw[List.foldl_cons];refine mK ss (fD ts y) ?_;rcases h with h|h
  ·exact .inl (kE.mpr (.inl h))
  ·rcases vP h with h|h
   ·exact .inl (kE.mpr (.inr h))
   ·exact .inr h
theorem sK {ss:List Str}{x:Str}(h:x∈ss):x∈dQ ss:=mK ss [] (.inr h)
theorem ln:∀(l m:List Str),l.Nodup->(∀x∈l,x∈m)->l.length<=m.length
 |[],m,_,_=>uN _
 |x::l,m,h,s=>by
  rw[List.nodup_cons]at h;have hx:=s x mX;have:=ln l (m.erase x) h.2 λy hy=>(List.mem_erase_of_ne (a:=y) (b:=x) (λe=>h.1 (by rw[←e];exact hy))).mpr (s y (mZ _ hy));rw[List.length_erase_of_mem hx]at this;have:0<m.length:=List.length_pos_of_mem hx;rw[vD];omega
theorem wT {h:Int}{kind:Str}{aA:List D}{parts:List Str}(hp:iQ bX (.str kind)=some (.tup (parts.map .str),false)):dC [row h kind aA]=some (.lst ((parts.zip aA).map λx=>.tup [.str x.1,x.2]),true):=by
 refine aF rfl (aR ?_);have e1:f1 (iQ bX) (fA bV (aa (aj 0) af)) [some (row h kind aA,false)]=some (.tup (parts.map .str),false):=sI (x:=.str kind) (b:=false) (ai (ds:=[row h kind aA]) rfl (gW h kind aA)) hp;have e2:iC (f2 cJ (aj 0) (fC (.int 1))) (bK (fC (.int 1))) bQ [some (row h kind aA,false)]=some (.tup aA,false):=by simp[row,A2,En]
 show(((f1 (iQ bX) (fA bV (aa (aj 0) af)) [some (row h kind aA,false)]).bind λx=>(iC (f2 cJ (aj 0) (fC (.int 1))) (bK (fC (.int 1))) bQ [some (row h kind aA,false)]).bind λy=>(gn x.1).bind λxs=>(gn y.1).map λys=>fB xs ys).map λds=>(D.lst ds,true))=_;rw[e1,e2];simp[pH]
theorem uh {r:D}(g:fY r ss):cC [r]=some (.lst ((iS (dQ ss)).map .str),true):=by
 obtain⟨h,kind,aA,rfl,_,_,g⟩:=g;obtain⟨parts,hp,hl,_,hk⟩:=g.parts;have lE:=g.ss2;have Fu:=pA (fi:=iM (fA dC (aa (aj 0) af))) (nT:=2) (cap:=[]) (tg:=CB [0,1]) (c:=dR (bE (f2 B1 (aj 0) (fC cB))) (bE (f2 nA (aj 1) (fC .non)))) (fe:=aj 1)
  (ρ:=[some (row h kind aA,false),none]) (parts.zip aA) (λx=>.tup [.str x.1,x.2]) (λx=>qY x.1 && there x.2) (·.2) (by
   have e1:fA dC (aa (aj 0) af) [some (row h kind aA,false),none]=_:=ai (ds:=[row h kind aA]) rfl (wT hp);show Option.bind (fA dC (aa (aj 0) af) [some (row h kind aA,false),none]) _=_;rw[e1];rfl) (by
   have:=g.len;rw[List.length_zip];omega) λx hx=>by
   have CW:=(g.flat x.2 (List.of_mem_zip hx).2);refine⟨_,rfl,iW (aN (b:=false) ?_) λ_=>aN (b:=false) ?_,λ_=>⟨false,?_⟩⟩
   ·refine aS (x:=.str x.1) (y:=cB) (b1:=false) (b2:=false) (by simp[fm]) rfl ?_;simp[cB,qY,eK]
   ·exact aS (x:=x.2) (y:=.non) (b1:=false) (b2:=false) (by simp[fm]) rfl (pK _ CW.2)
   ·simp[fm]
 refine aF rfl (gp (ds:=ss.map .str) ?_ (jK ss) (aR ?_))
 ·exact hk ▸ Fu
 ·have:ss.length<64:=by omega
  simp[this]
def eY (r:D):List Str:=match cC [r] with
 |some (.lst ds,_)=>(gI ds).getD []
 |_=>[]
theorem lp {r:D}(g:fY r ss):cC [r]=some (.lst ((eY r).map .str),true)/\(eY r).length<=2/\∀s,s∈eY r↔s∈ss:=by
 have h:=uh g;have e:eY r=iS (dQ ss):=by unfold eY;rw[h];simp[pM]
 have h2:ss.length<=2:=by obtain⟨_,_,_,_,_,_,d⟩:=g;exact d.ss2
 refine⟨by rw[e];exact h,?_,λs=>?_⟩
 ·rw[e,(eN _).length_eq];exact vR (kF ss) h2
 ·rw[e,(eN _).mem_iff];exact⟨pP,λz=>sK z⟩
def jM (ak:List D):Nat:=(dQ (ak.flatMap eY)).length
theorem wU {ak:List D}(g:pN ak)(hl:ak.length<=200):eU [.tup ak]=some (.int (jM ak),false):=by
 obtain⟨ρ',e,v,rfl,hz⟩:=kM (tg:=fN 2) (g:=gq) (λi ρ=>∃(v:OB),ρ=[some (.tup ak,false),some (.lst (((ak.take i).flatMap eY).map .str),true),v]/\((ak.take i).flatMap eY).length<=2*i) ak
  [some (.tup ak,false),some (.lst [],true),none] ⟨none,rfl,by simp⟩ (by
   rintro i d ρ hd ⟨v,rfl,hz⟩;have hi:=(vV hd).1;obtain⟨ss,gd⟩:=g d (List.mem_of_getElem? hd);obtain⟨hp,lE,_⟩:=lp gd;have hsz:(((ak.take i).flatMap eY).map D.str).length+((eY d).map D.str).length<=sizeLine:=eP (by simp only[vH];omega);have et:(ak.take (i+1)).flatMap eY=(ak.take i).flatMap eY++eY d:=by
    rw[List.take_succ,hd];simp[List.flatMap_append]
   refine⟨_,[some (.tup ak,false),some (.lst (((ak.take (i+1)).flatMap eY).map .str),true),some (d,false)],rfl,.inl ?_,some (d,false),rfl,by rw[et,uZ];omega⟩;have hv:fA cC (aa (aj 2) af) [some (.tup ak,false),some (.lst (((ak.take i).flatMap eY).map .str),true),some (d,false)]=some (.lst ((eY d).map .str),true):=ai (ds:=[d]) rfl hp;show wb 1 (fA cC (aa (aj 2) af)) [some (.tup ak,false),some (.lst (((ak.take i).flatMap eY).map .str),true),some (d,false)]=_;simp only[wb,List.getElem?_cons_succ,List.getElem?_cons_zero,hv,vI];rw[if_pos ⟨trivial,jK _,hsz⟩,et];simp)
 rw[List.take_length]at hz;refine aF rfl (gp (ds:=[]) (by simp[sizeLine]) rfl (gJ (zd (ds:=ak) (by simp[mW]) e) (aR (sI (x:=.lst ((ak.flatMap eY).map .str)) (b:=false) (by simp[mW]) ?_))));have:(ak.flatMap eY).length<4000:=by omega
 simp only[iU,pM,vI,if_pos this];rfl
theorem wV {ak:List D}{i:Nat}{r:D}(h:ak[i]? = some r):md ak (i:Int)=some r:=by
 have fH:i<ak.length:=(vV h).1;rw[eO fH,←h,vU fH]
theorem lq {ak:List D}{i:Nat}{r:D}(hr:ak[i]? = some r)(Ii:i<60)(g:pN (ak.take i))(gr:fY r ss)(hl:ak.length<=200):
  bf [.tup ak,.int i]=some (.bl (nR (ak.take i) r || decide (20<jM (ak.take (i+1)))),false):=by
 have ha:=wV hr;have Gm:∀ρ:DL.Env,ρ[0]? = some (some (.tup ak,false))->ρ[1]? = some (some (.int i,false))->f2 cJ (aj 0) (aj 1) ρ=some (r,false):=λρ h0 h1=>by simp[h0,h1,ha]
 have EB:=lh ak (i+1);rw[Int.natCast_add]at EB;have g1:pN (ak.take (i+1)):=λx hx=>by
  rw[List.take_succ,hr]at hx;rcases List.mem_append.mp hx with hx|hx
  ·exact g x hx
  ·simp at hx;subst hx;exact⟨_,gr⟩
 have hn:=wU g1 (by simp;omega);refine aF rfl (aH (cN (p:=false) (q:=false) (aN (b:=false) (by simp[de];omega)) λ_=>dZ (p:=true) (aN (b:=false) (ai (ds:=[r]) (aq (Gm _ rfl rfl) rfl) (zh gr)))) (aR (Ay (p:=nR (ak.take i) r) (q:=decide (20<jM (ak.take (i+1)))) (b1:=false) (ai (ds:=[.tup (ak.take i),r]) (aq (d:=.tup (ak.take i)) (b:=false) (by simp[lh]) (aq (Gm _ rfl rfl) rfl)) (ug g (by simp;omega) gr)) λ_=>aS (x:=.int (jM (ak.take (i+1)))) (y:=.int 20) (b1:=false) (b2:=false) (ai (ds:=[.tup (ak.take (i+1))]) (aq (d:=.tup (ak.take (i+1))) (b:=false) (by simp;exact EB) rfl) hn) rfl (by simp;omega))))
theorem pQ {ak:List D}{i:Nat}(h:60<=i):bf [.tup ak,.int i]=some (.bl true,false) :=
 aF rfl (cM (cN (p:=true) (q:=true) (aN (b:=false) (by simp[de];omega)) (by simp)) (aR rfl))
theorem pR {ak:List D}{i:Nat}{r:D}(hr:ak[i]? = some r)(Ii:i<60)(h:du [r]=some (.bl false,false)):bf [.tup ak,.int i]=some (.bl true,false):=by
 have ha:=wV hr;have Gm:∀ρ:DL.Env,ρ[0]? = some (some (.tup ak,false))->ρ[1]? = some (some (.int i,false))->f2 cJ (aj 0) (aj 1) ρ=some (r,false):=λρ h0 h1=>by simp[h0,h1,ha]
 exact aF rfl (cM (cN (p:=false) (q:=true) (aN (b:=false) (by simp[de];omega)) λ_=>dZ (p:=false) (aN (b:=false) (ai (ds:=[r]) (aq (Gm _ rfl rfl) rfl) h))) (aR rfl))
theorem pS {g:FS}{n k:Nat}{ds:List D}{d:D}{b:Bool}(hl:ds.length=n)(e:g (ds.map (λd=>some (d,false))++List.replicate k none)=some (.rt d b)):jA g n k ds=some (d,b):=by
 unfold jA;rw[if_pos hl,e]
theorem lr {i n:Nat}(h:i<n):(bB 0 n).drop i=.int i::(bB 0 n).drop (i+1):=by
 have hl:i<(bB 0 n).length:=by simpa [bB]using h
 rw[List.drop_eq_getElem_cons hl];congr 1;simp[bB]
theorem rb {d:D}{ak:List D}{p n:Nat}(hp:p<n)(h0:∀i,i<p->bf [.tup ak,.int i]=some (.bl false,false))(h1:bf [.tup ak,.int p]=some (.bl true,false)):
  ∀(k i:Nat)(v:OB),i+k=p->gf (fN 2) Az ((bB 0 n).drop i) [some (d,false),some (.tup ak,false),v]=some (.rt (.int p) false):=by
 intro k;induction k with
 |zero=>
  intro i v e;obtain rfl:i=p:=by omega
  rw[lr hp,jm];have:Az [some (d,false),some (.tup ak,false),some (.int i,false)]=some (.rt (.int i) false):=p9 (aN (b:=false) (ai (ds:=[.tup ak,.int i]) rfl h1)) (aR rfl);show(match Az [some (d,false),some (.tup ak,false),some (.int i,false)] with|some (.nx ρ')=>_|some (.ct ρ')=>_|some (.bk ρ')=>_|r=>r)=_;rw[this]
 |succ k ih=>
  intro i v e;rw[lr (by omega:i<n),jm];have:Az [some (d,false),some (.tup ak,false),some (.int i,false)]=some (.nx [some (d,false),some (.tup ak,false),some (.int i,false)]):=zc (aN (b:=false) (ai (ds:=[.tup ak,.int i]) rfl (h0 i (by omega)))) rfl;show(match Az [some (d,false),some (.tup ak,false),some (.int i,false)] with|some (.nx ρ')=>_|some (.ct ρ')=>_|some (.bk ρ')=>_|r=>r)=_;rw[this];exact ih (i+1) _ (by omega)
theorem Eo {i:Nat}{f:FE}{h:FS}{ρ:DL.Env}{d:D}{b:Bool}{r:Option Res}(e:f ρ=some (d,b))(k:h (setE ρ i d b)=r):aD (bt i f) h ρ=r:=by
 unfold aD bt;rw[e];exact k
theorem ui {ak:List D}{p:Nat}(hp:p<ak.length)(hl:ak.length<=200)(h0:∀i,i<p->bf [.tup ak,.int i]=some (.bl false,false))(h1:bf [.tup ak,.int p]=some (.bl true,false)){d:D}(hd:d=.lst ak∨d=.tup ak):
  bp [d]=some (.int p,false):=by
 have es:setE [some (d,false),none,none] 1 (.tup ak) false=[some (d,false),some (.tup ak,false),none]:=by
  unfold setE;split
  ·rfl
  ·rfl
 refine pS rfl (aH (dZ (p:=true) (aN (b:=false) (ai (ds:=[d,.tup [.ty "list",.ty "tuple"]]) (aq rfl (aq (d:=.tup [.ty "list",.ty "tuple"]) (b:=false) (by simp[sizeLine]) rfl)) ?_))) (Eo (d:=.tup ak) (b:=false) (ai (ds:=[d]) rfl ?_) ?_))
 ·rcases hd with rfl|rfl<;>simp
 ·rcases hd with rfl|rfl<;>simp
 ·show aD (fO (bC (fA cb (fV 1 af))) (fN 2) Az) jq (setE [some (d,false),none,none] 1 (.tup ak) false)=_;rw[es];have:=rb (d:=d) hp h0 h1 p 0 none (by omega);rw[List.drop_zero]at this;have e:fO (bC (fA cb (fV 1 af))) (fN 2) Az [some (d,false),some (.tup ak,false),none]=some (.rt (.int p) false):=by
   unfold fO;rw[dc (j:=ak.length) (b:=false) (by simp) (by omega)];exact this
  unfold aD;rw[e]
theorem wW {d:D}(h:dY [d,.tup [.ty "list",.ty "tuple"]]=some (.bl false,false)):bp [d]=some (.non,false) :=
 pS rfl (cM (dZ (p:=false) (aN (b:=false) (ai (ds:=[d,.tup [.ty "list",.ty "tuple"]]) (aq rfl (aq (d:=.tup [.ty "list",.ty "tuple"]) (b:=false) (by simp[sizeLine]) rfl)) h))) (aR rfl))
theorem pT {ak:List D}(hl:ak.length<=60)(h0:∀i,i<ak.length->bf [.tup ak,.int i]=some (.bl false,false))(hf:bi ak=true)(d:D)(hd:d=.lst ak∨d=.tup ak):dH [d]=some (.tup ak,false):=by
 obtain⟨ρ',e,v,rfl⟩:=p8 (tg:=fN 2) (g:=gP) ak.length (λi ρ=>∃v:OB,ρ=[some (d,false),some (.tup ak,false),v])
  [some (d,false),some (.tup ak,false),none] ⟨none,rfl⟩ (by
   rintro i ρ hi ⟨v,rfl⟩;exact⟨_,_,rfl,.inl (zc (aN (b:=false) (ai (ds:=[.tup ak,.int i]) rfl (h0 i hi))) rfl),some (.int i,false),rfl⟩)
 refine aF rfl (aH (dZ (p:=true) (aN (b:=false) (ai (ds:=[d,.tup [.ty "list",.ty "tuple"]]) (aq rfl (aq (d:=.tup [.ty "list",.ty "tuple"]) (b:=false) (by simp[sizeLine]) rfl)) ?_))) (fE (d:=.tup ak) (b:=false) (ai (ds:=[d]) rfl ?_) (by simp[hf]) (gJ (kP (dc (j:=ak.length) (b:=false) (by simp) (by omega)) e) (nP rfl))))
 ·rcases hd with rfl|rfl<;>simp
 ·rcases hd with rfl|rfl<;>simp
theorem wZ {a b:Int}(ha : -18446744073709551616<a/\a<18446744073709551616)(hb : -18446744073709551616<b/\b<18446744073709551616):qB (.int a) (.int b)=some (.int (a*b),false):=by simp[ha,hb]
theorem mL (c:Int)(s m:Nat)(hs:s<=100)(hm:m<=100):∃xs:List Int,eV [.int c,.int s,.int m]=some (.lst (xs.map .int),true)/\xs.length=m/\∀x∈xs,0<=x/\x<2147483647:=by
 let E:List Int->Int->OB->DL.Env:=λxs x v=>[some (.int c,false),some (.int s,false),some (.int m,false),some (.lst (xs.map .int),true),some (.int x,false),v];have MB:=mod_lt (x:=c) (m:=2147483647) (by decide);obtain⟨x0,CY⟩:∃x0,(c % 2147483647*48271+(s:Int)*(s:Int)*69621+11) % 2147483647=x0:=⟨_,rfl⟩;have JV:=mod_lt (x:=c % 2147483647*48271+(s:Int)*(s:Int)*69621+11) (m:=2147483647) (by decide);rw[CY]at JV;obtain⟨ρ',e,xs,x,v,rfl,hl,hx,CT⟩:=p8 (tg:=fN 5) (g:=jI) m (λi ρ=>∃xs x v,ρ=E xs x v/\xs.length=i/\(0<=x/\x<2147483647)/\∀y∈xs,0<=y/\y<2147483647) (E [] x0 none) ⟨[],x0,none,rfl,rfl,JV,by simp⟩ (by
  rintro i ρ hi ⟨xs,x,v,rfl,hl,hx,CT⟩;obtain⟨y,hy⟩:∃y,(x*x+48271*x+(i:Int)+(s:Int)) % 2147483647=y:=⟨_,rfl⟩;have hb:=mod_lt (x:=x*x+48271*x+(i:Int)+(s:Int)) (m:=2147483647) (by decide);rw[hy]at hb;refine⟨E xs x (some (.int i,false)),E (xs++[y]) y (some (.int i,false)),rfl,.inl (fE (d:=.int y) (b:=false) ?_ rfl ?_),_,_,_,rfl,by rw[uZ,List.length_singleton,hl],hb,?_⟩
  ·refine aS (x:=.int (x*x+48271*x+(i:Int)+(s:Int))) (y:=.int 2147483647) (b1:=false) (b2:=false) (aS (x:=.int (x*x+48271*x+(i:Int))) (y:=.int s) (b1:=false) (b2:=false) (aS (x:=.int (x*x+48271*x)) (y:=.int i) (b1:=false) (b2:=false) (aS (x:=.int (x*x)) (y:=.int (48271*x)) (b1:=false) (b2:=false) (aS (x:=.int x) (y:=.int x) (b1:=false) (b2:=false) rfl rfl (wZ (by omega) (by omega))) (aS (x:=.int 48271) (y:=.int x) (b1:=false) (b2:=false) rfl rfl (wZ (by omega) (by omega))) rfl) rfl rfl) rfl rfl) rfl ?_;rw[←hy];rfl
  ·refine(qW (ds:=xs.map .int) (d:=.int y) (b:=false) rfl rfl rfl (gm (by rw[vH];omega))).trans ?_;simp[E]
  ·intro z hz;rcases List.mem_append.mp hz with h|h
   ·exact CT z h
   ·rw[uT h];exact hb)
 refine⟨xs,aF rfl (gp (ds:=[]) rfl rfl (fE (d:=.int x0) (b:=false) ?_ rfl (gJ (kP (dc (j:=m) (b:=false) rfl (by omega)) e) (nP rfl)))),hl,CT⟩;refine aS (x:=.int (c % 2147483647*48271+(s:Int)*(s:Int)*69621+11)) (y:=.int 2147483647) (b1:=false) (b2:=false) (aS (x:=.int (c % 2147483647*48271+(s:Int)*(s:Int)*69621)) (y:=.int 11) (b1:=false) (b2:=false) (aS (x:=.int (c % 2147483647*48271)) (y:=.int ((s:Int)*(s:Int)*69621)) (b1:=false) (b2:=false) (aS (x:=.int (c % 2147483647)) (y:=.int 48271) (b1:=false) (b2:=false) (aS (x:=.int c) (y:=.int 2147483647) (b1:=false) (b2:=false) rfl rfl rfl) rfl (wZ (by omega) (by omega))) (aS (x:=.int ((s:Int)*(s:Int))) (y:=.int 69621) (b1:=false) (b2:=false) (aS (x:=.int s) (y:=.int s) (b1:=false) (b2:=false) rfl rfl (wZ (by omega) (by omega))) rfl (wZ ?_ (by omega))) rfl) rfl rfl) rfl ?_
 ·have h1:(s:Int)*(s:Int)<=100*100:=Int.mul_le_mul (by omega) (by omega) (by omega) (by omega);have h2:0<=(s:Int)*(s:Int):=Int.mul_nonneg (by omega) (by omega);omega
 ·rw[←CY];rfl
theorem dM (ds:List D)(h:ds.length<=1000):aB ds=some (.tup ds,false):=by unfold aB;rw[if_pos (eP (by omega))]
theorem fG (ds:List D)(h:ds.length<=1000):bA ds=some (.lst ds,true):=by unfold bA;rw[if_pos (eP (by omega))]
theorem gy (a:Int){m:Int}(h:0<m):bu (.int a) (.int m)=some (.int (a % m),false):=by simp[h]
theorem Ep (a:Int){m:Int}(h:0<m)(h2:m<1073741824):im (.int a) (.int m)=some (.int (a / m),false):=by simp[h,h2]
def cS (k:Nat):Str:=match aE [.int k] with
 |some (.str z,_)=>z
 |_=>""
theorem xa:(List.range 21).all (λk=>Ax (aE [.int k]) (.str (cS k)) false && pJ (cS k))=true:=by decide +kernel
theorem zk:decide ((List.range 21).map cS).Nodup=true:=by decide +kernel
theorem eZ {k:Nat}(h:k<21):aE [.int k]=some (.str (cS k),false)/\pJ (cS k)=true:=by
 have:=uR xa k (List.mem_range.mpr h);rw[vC]at this;exact⟨cy this.1,this.2⟩
def BX:FE:=(f2 bj (f2 bj (f2 cJ (fS "abcdefgh") (f2 bu (aj 0) (fI 8))) (f2 cJ (fS "abcdefgh") (f2 im (aj 0) (fI 8)))) (fS "r"))
def dN (k:Nat):Str:=match BX [some (.int k,false)] with
 |some (.str z,_)=>z
 |_=>""
theorem pU:(List.range 42).all (λk=>Ax (BX [some (.int k,false)]) (.str (dN k)) false && pJ (dN k))=true:=by decide +kernel
theorem zm:decide ((List.range 42).map dN).Nodup=true:=by decide +kernel
theorem BY {k:Nat}(h:k<42){ρ:DL.Env}{i:Nat}{b:Bool}(e:ρ[i]? = some (some (.int k,b))):f2 bj (f2 bj (f2 cJ (fS "abcdefgh") (f2 bu (aj i) (fI 8))) (f2 cJ (fS "abcdefgh") (f2 im (aj i) (fI 8)))) (fS "r") ρ=some (.str (dN k),false):=by
 have:=uR pU k (List.mem_range.mpr h);rw[vC]at this;have e1:=cy this.1;unfold BX at e1;rw[←e1];simp[e]
theorem xc {k:Nat}(h:k<42):pJ (dN k)=true:=by
 have:=uR pU k (List.mem_range.mpr h);rw[vC]at this;exact this.2
theorem nU {j k:Nat}(hj:j<42)(hk:k<42)(e:dN j=dN k):j=k:=by
 have nd:=of_decide_eq_true zm;have h1:((List.range 42).map dN)[j]? = some (dN j):=by rw[vA,List.getElem?_range hj];rfl
 have h2:((List.range 42).map dN)[k]? = some (dN j):=by rw[vA,List.getElem?_range hk,e];rfl
 exact iE nd h1 h2
theorem pV {h m f:Int}{o r:Str}(h0:0<=h)(h1:h<=9999)(ho:pJ o=true)(hm:1<=m/\m<=255)(hf:0<=f/\f<=9)(hr:bU [.str "rule",.str r]=some (.bl true,false)):fY (row h ("root" : Str) [.str o,.int m,.int f,.str r]) []:=by
 refine⟨h,_,_,rfl,h0,h1,⟨[("office" : Str),("matters" : Str),("further" : Str),("rule" : Str)],cy (by decide +kernel),rfl,?_,rfl⟩,by simp,by simp,?_,.inl ⟨rfl,_,_,rfl⟩⟩
 ·intro x hx;simp only[List.zip_cons_cons,List.zip_nil_right,List.mem_cons,List.not_mem_nil,or_false]at hx;rcases hx with rfl|rfl|rfl|rfl
  ·exact je (p:=("office" : Str)) (by decide +kernel) (by decide +kernel) (gR ho)
  ·exact i7 (gS hm.1 hm.2)
  ·exact lj hf.1 hf.2
  ·exact hr
 ·intro d hd;simp only[List.mem_cons,List.not_mem_nil,or_false]at hd;rcases hd with rfl|rfl|rfl|rfl<;>exact⟨rfl,rfl⟩
theorem jy {h d:Int}{p:Str}(h0:0<=d)(h1:d<=h)(h2:h<=9999)(hp:pJ p=true):fY (row h ("death" : Str) [.int d,.str p]) [p]:=by
 refine⟨h,_,_,rfl,by omega,h2,⟨[("day" : Str),("person" : Str)],cy (by decide +kernel),rfl,?_,rfl⟩,by simp,by simp,?_,.inr ⟨by decide +kernel,⟨d,_,rfl,h1,h0,λz=>absurd z (by decide +kernel)⟩,cy (by decide +kernel)⟩⟩
 ·intro x hx;simp only[List.zip_cons_cons,List.zip_nil_right,List.mem_cons,List.not_mem_nil,or_false]at hx;rcases hx with rfl|rfl
  ·exact qX (p:=("day" : Str)) (by decide +kernel) (jd h0 (by omega))
  ·exact je (p:=("person" : Str)) (by decide +kernel) (by decide +kernel) (gR hp)
 ·intro x hd;simp only[List.mem_cons,List.not_mem_nil,or_false]at hd;rcases hd with rfl|rfl<;>exact⟨rfl,rfl⟩
noncomputable def pW:List Str:=(List.range 20).map cS
structure Fine (ak:List D):Prop where
 good:pN ak
 nd:((ak.filter bx).map dL).Nodup
 nm:∀r∈ak,∀s∈eY r,s∈pW
theorem Fine.sub {a b:List D}(F:Fine b)(h:a.Sublist b):Fine a :=
 ⟨λr hr=>F.good r (h.subset hr),F.nd.sublist ((h.filter _).map _),λr hr=>F.nm r (h.subset hr)⟩
theorem Fine.app {a b:List D}(F:Fine a)(G:Fine b)(h:∀x∈a,∀y∈b,bx x=true->bx y=true->dL x≠dL y):Fine (a++b):=by
 refine⟨λr hr=>(List.mem_append.mp hr).elim (F.good r) (G.good r),?_,λr hr=>(List.mem_append.mp hr).elim (F.nm r) (G.nm r)⟩;rw[List.filter_append,List.map_append];refine List.nodup_append.mpr ⟨F.nd,G.nd,λx hx y hy=>?_⟩;obtain⟨u,hu,rfl⟩:=vO hx;obtain⟨v,hv,rfl⟩:=vO hy;obtain⟨u1,u2⟩:=List.mem_filter.mp hu;obtain⟨v1,v2⟩:=List.mem_filter.mp hv;exact h u u1 v v1 u2 v2
theorem Fine.noRoot {a:List D}(g:pN a)(h:∀x∈a,bx x=false)(n:∀r∈a,∀s∈eY r,s∈pW):Fine a:=by
 refine⟨g,?_,n⟩;have:a.filter bx=[]:=List.filter_eq_nil_iff.mpr λx hx=>by rw[h x hx];decide
 rw[this];exact List.nodup_nil
theorem xf {ak:List D}(F:Fine ak):jM ak<=20:=by
 have:=ln (dQ (ak.flatMap eY)) pW (lm _ [] List.nodup_nil) λx hx=>by
  obtain⟨r,hr,hs⟩:=List.mem_flatMap.mp (pP hx);exact F.nm r hr x hs
 exact this
theorem uj {ak:List D}(F:Fine ak){i:Nat}{r:D}(hr:ak[i]? = some r):nR (ak.take i) r=false:=by
 have hi:=(vV hr).1;have e:ak=ak.take i++r::ak.drop (i+1):=by
  have:=List.take_append_drop i ak;rw[List.drop_eq_getElem_cons hi]at this;have er:ak[i]=r:=(vV hr).2;rw[er]at this;exact this.symm
 unfold nR;cases h:bx r with
 |false=>rfl
 |true=>
  rw[Bool.true_and];refine decide_eq_false λzJ=>?_;have nd:=F.nd;rw[e,List.filter_append,List.filter_cons_of_pos h,List.map_append,List.map_cons]at nd;exact(List.nodup_append.mp nd).2.2 _ zJ _ mX rfl
theorem sL {pre post:List D}(F:Fine pre)(hp:pre.length<=60)(hl:(pre++post).length<=200){i:Nat}(hi:i<pre.length):bf [.tup (pre++post),.int i]=some (.bl false,false):=by
 obtain⟨r,hr⟩:∃r,pre[i]? = some r:=⟨_,vU hi⟩;have HZ:(pre++post)[i]? = some r:=by rw[List.getElem?_append_left hi];exact hr
 have ht:∀j,j<=pre.length->(pre++post).take j=pre.take j:=λj hj=>List.take_append_of_le_length hj;obtain⟨ss,gr⟩:=F.good r (List.mem_of_getElem? hr);rw[lq HZ (by omega) (by rw[ht i (by omega)];exact λx hx=>F.good x (List.mem_of_mem_take hx)) gr hl,ht i (by omega),ht (i+1) (by omega),uj F hr,decide_eq_false (by have:=xf (F.sub (List.take_sublist (i+1) pre));omega)];rfl
theorem BZ {pre post:List D}{r:D}(F:Fine pre)(hp:pre.length<=60)(hl:(pre++r::post).length<=200)
  (h:pre.length=60∨du [r]=some (.bl false,false)∨∃ss,fY r ss/\(nR pre r=true∨20<jM (pre++[r]))) {d:D}(hd:d=.lst (pre++r::post)∨d=.tup (pre++r::post)):bp [d]=some (.int pre.length,false):=by
 have hr:(pre++r::post)[pre.length]? = some r:=by rw[List.getElem?_append_right (vT _)];simp
 refine ui (by simp) hl (λi hi=>sL F hp hl hi) ?_ hd;by_cases Ii:pre.length=60
 ·exact pQ (by omega)
 rcases h with h|h|⟨ss,gr,h⟩
 ·exact absurd h Ii
 ·exact pR hr (by omega) h
 ·have t1:(pre++r::post).take pre.length=pre:=by simp
  have t2:(pre++r::post).take (pre.length+1)=pre++[r]:=by rw[List.take_length_add_append];rfl
  rw[lq hr (by omega) (by rw[t1];exact F.good) gr hl,t1,t2];rcases h with h|h
  ·rw[h];rfl
  ·rw[decide_eq_true h,Bool.or_true]
theorem xg {ak:List D}(F:Fine ak)(hl:ak.length<=60)(hf:bi ak=true){d:D}(hd:d=.lst ak∨d=.tup ak):dH [d]=some (.tup ak,false) :=
 pT hl (λi hi=>by have:=sL (post:=[]) F hl (by simp;omega) hi;rwa [uQ]at this) hf d hd
theorem uk {f g:FE}{ρ:DL.Env}{i j:Int}{b1 b2:Bool}(e1:f ρ=some (.int i,b1))(e2:g ρ=some (.int j,b2))(hc : -1000<=i/\i<=1000/\-1000<=j/\j<=1000):jZ f g ρ=some (bB i (j - i).toNat):=by
 simp only[jZ,e1,e2,vI];exact if_pos hc
theorem IM {xs:List Int}{j:Nat}{x:Int}(h:xs[j]? = some x):md (xs.map D.int) (j:Int)=some (.int x):=by
 have hl:j<(xs.map D.int).length:=by rw[vH];exact(vV h).1
 rw[eO hl,List.getElem_map,(vV h).2]
theorem xh {ρ:DL.Env}{i j:Nat}{xs:List Int}{x:Int}{b:Bool}(e:ρ[i]? = some (some (.lst (xs.map .int),b)))(h:xs[j]? = some x):f2 cJ (aj i) (fI j) ρ=some (.int x,false):=by
 have:=IM h;simp[e,this]
def Dr (k:Nat)(r:D):Prop:=(∃h:Int,0<=h/\h<=9999/\r=row h ("root" : Str) [.str (dN k),.int 7,.int 2,.str "last"])∨∃(d:Int)(p:Nat),0<=d/\d<=9999/\p<20/\r=row 9999 ("death" : Str) [.int d,.str (cS p)]
theorem ul:bU [.str "rule",.str "last"]=some (.bl true,false):=cy (by decide +kernel)
theorem um:bU [.str "rule",.str "open"]=some (.bl true,false):=cy (by decide +kernel)
theorem Dr.good {k:Nat}{r:D}(hk:k<42)(g:Dr k r):∃ss,fY r ss/\∀s∈ss,s∈pW:=by
 rcases g with⟨h,h0,h1,rfl⟩|⟨d,p,h0,h1,hp,rfl⟩
 ·exact⟨[],pV h0 h1 (xc hk) (by decide) (by decide) ul,by simp⟩
 ·refine⟨[cS p],jy h0 h1 (by decide) (eZ (by omega)).2,λs hs=>?_⟩;rw[uT hs];exact List.mem_map.mpr ⟨p,List.mem_range.mpr hp,rfl⟩
theorem Dr.off {k:Nat}{r:D}(g:Dr k r)(h:bx r=true):dL r=dN k:=by
 rcases g with⟨h,h0,h1,rfl⟩|⟨d,p,h0,h1,hp,rfl⟩
 ·rfl
 ·exact absurd h (by show ¬(decide (("death" : Str)=("root" : Str))=true);decide +kernel)
def lQ (L:List D):Prop:=L.length<=40/\∀j r,L[j]? = some r->Dr (j+2) r
theorem lQ.fine {L:List D}(g:lQ L):Fine L:=by
 have at':∀r∈L,∃j,j<L.length/\L[j]? = some r/\Dr (j+2) r:=λr hr=>by
  obtain⟨j,hj⟩:=List.mem_iff_getElem?.mp hr;exact⟨j,(vV hj).1,hj,g.2 j r hj⟩
 have hl:=g.1;refine⟨λr hr=>?_,?_,λr hr s hs=>?_⟩
 ·obtain⟨j,h1,_,h2⟩:=at' r hr;obtain⟨ss,gs,_⟩:=h2.good (by omega);exact⟨ss,gs⟩
 ·refine List.pairwise_map.mpr (List.pairwise_filter.mpr (List.pairwise_iff_getElem.mpr λi j hi hj hij a b e=>?_));have h1:=g.2 i _ (vU hi);have h2:=g.2 j _ (vU hj);rw[h1.off a,h2.off b]at e;have:=nU (by omega) (by omega) e;omega
 ·obtain⟨j,h1,_,h2⟩:=at' r hr;obtain⟨ss,gs,hn⟩:=h2.good (by omega);exact hn s (((lp gs).2.2 s).mp hs)
theorem Dr.flat {k:Nat}{r:D}(g:Dr k r):bw r=true:=by
 rcases g with⟨h,h0,h1,rfl⟩|⟨d,p,h0,h1,hp,rfl⟩<;>simp[row]
theorem zn (ns:List Int)(EQ:ns.length<=63):∃L,kZ [.lst (ns.map .int),.int 40]=some (.lst L,true)/\lQ L:=by
 let n:Nat:=(min ns.length 42) - 2;let E:List D->OB->OB->DL.Env:=λL x y=>[some (.lst (ns.map .int),false),some (.int 40,false),some (.lst L,true),x,y];obtain⟨ρ',e,L,x,y,rfl,hl,hd⟩:=kM (tg:=fN 3) (g:=mJ) (λi ρ=>∃L x y,ρ=E L x y/\L.length=i/\∀j r,L[j]? = some r->Dr (j+2) r) (bB 2 n) (E [] none none) ⟨[],none,none,rfl,rfl,by simp⟩ (by
  rintro i d ρ hd ⟨L,x,y,rfl,hl,hL⟩;unfold bB at hd;rw[vA]at hd;obtain⟨k,hk,hd⟩:=oY hd;obtain⟨fH,hk⟩:=vV hk;rw[List.getElem_range]at hk;subst hk;subst hd;rw[List.length_range]at fH;have hi:i+2<ns.length/\i+2<42:=by show i+2<_/\_;have:i<min ns.length 42 - 2:=fH;omega
  obtain⟨c,hc⟩:∃c,ns[i+2]? = some c:=⟨_,vU hi.1⟩;obtain⟨xs,ex,Mi,hx⟩:=mL c (i+2) 3 (by omega) (by decide);obtain⟨x0,CY⟩:∃z,xs[0]? = some z:=⟨_,vU (by omega)⟩;obtain⟨x1,Gn⟩:∃z,xs[1]? = some z:=⟨_,vU (by omega)⟩;obtain⟨x2,CW⟩:∃z,xs[2]? = some z:=⟨_,vU (by omega)⟩;have e2:(2:Int)+(i:Int)=((i+2:Nat):Int):=by omega
  rw[e2];have Ij:=mod_lt (x:=x1) (m:=10000) (by decide);have Mj:=mod_lt (x:=x2) (m:=20) (by decide);obtain⟨p,hp⟩:∃p:Nat,x2 % 20=(p:Int):=⟨(x2 % 20).toNat,by omega⟩;have Ik:p<20:=by omega
  let E1:=E L (some (.int ((i+2:Nat):Int),false)) (some (.lst (xs.map .int),true));have i0:f2 cJ (aj 4) (fI 0) E1=some (.int x0,false):=xh (i:=4) (j:=0) (xs:=xs) (b:=true) rfl CY;have i1:f2 cJ (aj 4) (fI 1) E1=some (.int x1,false):=xh (i:=4) (j:=1) (xs:=xs) (b:=true) rfl Gn;have i2:f2 cJ (aj 4) (fI 2) E1=some (.int x2,false):=xh (i:=4) (j:=2) (xs:=xs) (b:=true) rfl CW;have fs:fA eV (aa (f2 cJ (aj 0) (aj 3)) (fV 3 (aa (fI 3) af))) (E L (some (.int ((i+2:Nat):Int),false)) y)=some (.lst (xs.map .int),true):=by
   refine ai (ds:=[.int c,.int ((i+2:Nat):Int),.int 3]) (aq (b:=false) ?_ rfl) ex;have:=IM hc;simp only[f2,aj,E,List.getElem?_cons_zero,List.getElem?_cons_succ,vI,cJ,this,Option.map_some]
  obtain⟨r,dr,hr⟩:∃r,Dr (i+2) r/\dj (bE (f2 dg (f2 bu (cI 4 0) (fI 3)) (fI 0))) (ni 2 (fA aB (aa (f2 bu (cI 4 1) (fI 10000)) (aa (fA aB (aa (fS "root") (aa (f2 bj (f2 bj (f2 cJ (fS "abcdefgh") (f2 bu (aj 3) (fI 8))) (f2 cJ (fS "abcdefgh") (f2 im (aj 3) (fI 8)))) (fS "r")) (aa (fI 7) (aa (fI 2) (aa (fS "last") af)))))) af)))) (ni 2 (fA aB (aa (fI 9999) (aa (fA aB (aa (fS "death") (aa (f2 bu (cI 4 1) (fI 10000)) (aa (fA aE (aa (f2 bu (cI 4 2) (fI 20)) af)) af)))) af)))) E1=some (.nx (E (L++[r]) (some (.int ((i+2:Nat):Int),false)) (some (.lst (xs.map .int),true)))):=by
   have t0:bE (f2 dg (f2 bu (cI 4 0) (fI 3)) (fI 0)) E1=some (decide (x0 % 3=0)):=aN (b:=false) (aS (x:=.int (x0 % 3)) (y:=.int 0) (b1:=false) (b2:=false) (aS (x:=.int x0) (y:=.int 3) (b1:=false) (b2:=false) i0 rfl (gy _ (by decide))) rfl (by simp));have m1:f2 bu (cI 4 1) (fI 10000) E1=some (.int (x1 % 10000),false):=aS (x:=.int x1) (y:=.int 10000) (b1:=false) (b2:=false) i1 rfl (gy _ (by decide));by_cases h3:x0 % 3=0
   ·refine⟨row (x1 % 10000) ("root" : Str) [.str (dN (i+2)),.int 7,.int 2,.str "last"],.inl ⟨_,Ij.1,by omega,rfl⟩,p9 (t0.trans (by rw[decide_eq_true h3])) ?_⟩;refine(qW (ds:=L) (b:=false) rfl (ai (ds:=[.int (x1 % 10000),.tup [.str "root",.str (dN (i+2)),.int 7,.int 2,.str "last"]]) (aq m1 (aq (b:=false) (ai (ds:=[.str "root",.str (dN (i+2)),.int 7,.int 2,.str "last"]) (aq (b:=false) rfl (aq (b:=false) (BY (k:=i+2) (i:=3) (b:=false) hi.2 rfl) rfl)) (dM _ (by simp))) rfl)) (dM _ (by simp))) rfl (gm (by omega))).trans ?_;rfl
   ·refine⟨row 9999 ("death" : Str) [.int (x1 % 10000),.str (cS p)],.inr ⟨_,p,Ij.1,by omega,Ik,rfl⟩,zc (t0.trans (by rw[decide_eq_false h3])) ?_⟩;refine(qW (ds:=L) (b:=false) rfl (ai (ds:=[.int 9999,.tup [.str "death",.int (x1 % 10000),.str (cS p)]]) (aq (b:=false) rfl (aq (b:=false) (ai (ds:=[.str "death",.int (x1 % 10000),.str (cS p)]) (aq (b:=false) rfl (aq m1 (aq (b:=false) (ai (ds:=[.int p]) (aq (b:=false) (aS (x:=.int x2) (y:=.int 20) (b1:=false) (b2:=false) i2 rfl (by rw[gy _ (by decide),hp])) rfl) (eZ (by omega)).1) rfl))) (dM _ (by simp))) rfl)) (dM _ (by simp))) rfl (gm (by omega))).trans ?_;rfl
  refine⟨_,E (L++[r]) (some (.int ((i+2:Nat):Int),false)) (some (.lst (xs.map .int),true)),rfl,.inl (gp (ds:=xs.map .int) fs (by induction xs<;>simp_all) hr),L++[r],_,_,rfl,by simp[hl],λj q hq=>?_⟩
  by_cases hj:j<L.length
  ·rw[List.getElem?_append_left hj]at hq;exact hL j q hq
  ·rw[List.getElem?_append_right (by omega)]at hq;have:j - L.length=0:=by
    rcases Nat.eq_zero_or_pos (j - L.length)with z|z
    ·exact z
    ·rw[List.getElem?_eq_none (by simp;omega)]at hq;cases hq
   rw[this]at hq;simp at hq;rw[show j=i by omega,←hq];exact dr)
 have hr:(bB 2 n).length=n:=by simp[bB]
 rw[hr]at hl;refine⟨L,aF rfl (gp (ds:=[]) (by simp[sizeLine]) rfl (gJ (kP (ds:=bB 2 n) ?_ e) (nP rfl))),by omega,hd⟩;have Il:∀ρ:DL.Env,ρ[0]? = some (some (.lst (ns.map .int),false))->ρ[1]? = some (some (.int 40,false))->fA yE (aa (fA cb (fV 0 af)) (aa (f2 bj (fI 2) (aj 1)) af)) ρ=some (.int (min ns.length 42:Nat),false):=λρ h0 h1=>by
  simp[h0,h1];omega
 rw[uk (i:=2) (j:=((min ns.length 42:Nat):Int)) (b1:=false) (b2:=false) rfl (Il _ rfl rfl) (by omega)];congr 2;show _=min ns.length 42 - 2;omega
theorem xi (l:List D)(a:Nat):jQ l (some (a:Int)) none=l.drop a:=by
 unfold jQ;rw[HT.rG,HT.oy];by_cases h:a<=l.length
 ·rw[Nat.min_eq_left h,List.take_of_length_le (by simp)]
 ·rw[Nat.min_eq_right (by omega),List.drop_eq_nil_of_le (vT _),List.drop_eq_nil_of_le (by omega)];simp
theorem pX {a b:List D}(h:a.length+b.length<=1000):bj (.lst a) (.lst b)=some (.lst (a++b),true):=by
 simp only[bj];exact if_pos (eP (by omega))
theorem FJ {fa fh:FE}{ρ:DL.Env}{l:List D}{n:Nat}{b b2:Bool}(e:fa ρ=some (.lst l,b))(h:fh ρ=some (.int n,b2)):iC fa bQ (bK fh) ρ=some (.lst (l.take n),true):=by
 have:=lh l n;simp[e,h,this]
theorem Hd {fa fh:FE}{ρ:DL.Env}{l:List D}{n:Nat}{b b2:Bool}(e:fa ρ=some (.lst l,b))(h:fh ρ=some (.int n,b2)):iC fa (bK fh) bQ ρ=some (.lst (l.drop n),true):=by
 have:=xi l n;simp[e,h,this]
noncomputable def kc:List D:=[.non,.int 7,.bl true,.str "death",.lst [.int 9,.tup [.str "death",.int 3,.str "a"]],.tup [.str "death",.int 3,.str "a"],.tup [.int 3,.tup [.str "death",.int 4,.str "a"]],.tup []]
noncomputable def nW:List D:=[.tup [.int 9999,.tup [.str "death",.int 10000,.str "a"]],.tup [.int 9,.tup [.str "root",.str "office",.int 256,.int 1,.str "open"]],.tup [.int 9,.tup [.str "call",.int 3,.str "a",.int 60]]]
noncomputable def sM:List D:=[.tup [.int 9,.tup [.str "root",.str "office",.int 1,.int 10,.str "open"]],.tup [.int 9,.tup [.str "copy",.int 3,.str "A",.int 1]],.tup [.int 9,.lst [.str "death",.int 3,.str "a"]]]
noncomputable def zo:List D:=[.tup [.int 9,.tup [.str "died",.int 3,.str "a"]],.tup [.int 9,.tup [.str "leave",.int 3,.str "a",.str "b",.int 1,.tup [.int 4,.int 4],.int 0]],.tup [.int 10000,.tup [.str "death",.int 3,.str "a"]]]
def iA:List D:=kc++nW++sM++zo
theorem zp:iA.all (λr=>Ax (du [r]) (.bl false) false)=true:=by decide +kernel
theorem mM (x:Int):∃r,dD [.int x]=some (r,false)/\du [r]=some (.bl false,false):=by
 have hm:=mod_lt (x:=x) (m:=17) (by decide);obtain⟨j,hj⟩:∃j:Nat,x % 17=(j:Int):=⟨(x % 17).toNat,by omega⟩;have MC:iA.length=17:=by decide +kernel
 have hl:j<iA.length:=by omega
 have hr:=uR zp iA[j] (List.getElem_mem hl);refine⟨iA[j],?_,cy hr⟩;refine aF rfl (m9 (d:=.lst kc) (b:=true) rfl (m9 (d:=.lst (kc++nW)) (b:=true) rfl (m9 (d:=.lst (kc++nW++sM)) (b:=true) rfl (m9 (d:=.lst iA) (b:=true) rfl (aR (aS (x:=.lst iA) (y:=.int (x % 17)) (b1:=false) (b2:=false) rfl (aS (x:=.int x) (y:=.int 17) (b1:=false) (b2:=false) rfl rfl (gy _ (by decide))) ?_))))));rw[hj];simp only[cJ];rw[eO hl];rfl
def zq (k:Nat):D:=row 9999 ("death" : Str) [.int 1,.str (cS k)]
theorem nX {k:Nat}(h:k<20):fY (zq k) [cS k]:=jy (by decide) (by decide) (by decide) (eZ (by omega)).2
theorem ls (k:Nat):bx (zq k)=false:=by show decide (("death" : Str)=("root" : Str))=false;decide +kernel
theorem Er {k:Nat}(h:k<20):cS k∈pW:=List.mem_map.mpr ⟨k,List.mem_range.mpr h,rfl⟩
noncomputable def dv:List D:=(List.range 20).map zq
theorem re {l:List D}(h:∀x∈l,x∈dv):Fine l:=by
 have at':∀x∈l,∃k,k<20/\x=zq k:=λx hx=>by
  obtain⟨k,hk,rfl⟩:=vO (h x hx);exact⟨k,List.mem_range.mp hk,rfl⟩
 refine Fine.noRoot (λx hx=>?_) (λx hx=>?_) λx hx s hs=>?_
 ·obtain⟨k,hk,rfl⟩:=at' x hx;exact⟨_,nX hk⟩
 ·obtain⟨k,hk,rfl⟩:=at' x hx;exact ls k
 ·obtain⟨k,hk,rfl⟩:=at' x hx;have:=((lp (nX hk)).2.2 s).mp hs;rw[uT this];exact Er hk
theorem uo {q:Nat}(hq:q<20):fY (row 9 ("leave" : Str) [.int 5,.str (cS 20),.str (cS q),.int 1,.tup [.int 0,.non],.int 0]) [cS 20,cS q]:=by
 refine⟨9,_,_,rfl,by decide,by decide,⟨[("day" : Str),("by" : Str),("person" : Str),("matters" : Str),("stretch" : Str),("further" : Str)],cy (by decide +kernel),rfl,?_,rfl⟩,by simp,by simp,?_,.inr ⟨by decide +kernel,⟨5,_,rfl,by decide,by decide,λz=>absurd z (by decide +kernel)⟩,cy (by decide +kernel)⟩⟩
 ·intro x hx;simp only[List.zip_cons_cons,List.zip_nil_right,List.mem_cons,List.not_mem_nil,or_false]at hx;rcases hx with rfl|rfl|rfl|rfl|rfl|rfl
  ·exact qX (p:=("day" : Str)) (by decide +kernel) (jd (by decide) (by decide))
  ·exact je (p:=("by" : Str)) (by decide +kernel) (by decide +kernel) (gR (eZ (by decide)).2)
  ·exact je (p:=("person" : Str)) (by decide +kernel) (by decide +kernel) (gR (eZ (by omega)).2)
  ·exact i7 (gS (by decide) (by decide))
  ·exact li (jL (by decide) (by decide))
  ·exact lj (by decide) (by decide)
 ·intro d hd;simp only[List.mem_cons,List.not_mem_nil,or_false]at hd;rcases hd with rfl|rfl|rfl|rfl|rfl|rfl<;>exact⟨rfl,rfl⟩
theorem up {q:Nat}(hq:q<20):fY (row 9 ("paper" : Str) [.int 5,.str (cS q),.int 1,.tup [.int 0,.non],.str (cS 20),.tup [.str "a"]]) [cS q,cS 20]:=by
 refine⟨9,_,_,rfl,by decide,by decide,⟨[("day" : Str),("by" : Str),("matters" : Str),("stretch" : Str),("whom" : Str),("pieces" : Str)],cy (by decide +kernel),rfl,?_,rfl⟩,by simp,by simp,?_,.inr ⟨by decide +kernel,⟨5,_,rfl,by decide,by decide,λz=>absurd z (by decide +kernel)⟩,cy (by decide +kernel)⟩⟩
 ·intro x hx;simp only[List.zip_cons_cons,List.zip_nil_right,List.mem_cons,List.not_mem_nil,or_false]at hx;rcases hx with rfl|rfl|rfl|rfl|rfl|rfl
  ·exact qX (p:=("day" : Str)) (by decide +kernel) (jd (by decide) (by decide))
  ·exact je (p:=("by" : Str)) (by decide +kernel) (by decide +kernel) (gR (eZ (by omega)).2)
  ·exact i7 (gS (by decide) (by decide))
  ·exact li (jL (by decide) (by decide))
  ·exact cy (by decide +kernel)
  ·exact cy (by decide +kernel)
 ·intro d hd;simp only[List.mem_cons,List.not_mem_nil,or_false]at hd;rcases hd with rfl|rfl|rfl|rfl|rfl|rfl<;>exact⟨rfl,rfl⟩
theorem rg {pre:List D}{r:D}{ss:List Str}(hf:∀k,k<20->zq k∈pre)(gr:fY r ss)(h:cS 20∈ss):20<jM (pre++[r]):=by
 have nd:=of_decide_eq_true zk;have:=ln ((List.range 21).map cS) (dQ ((pre++[r]).flatMap eY)) nd λx hx=>by
  obtain⟨k,hk,rfl⟩:=vO hx;have hk:=List.mem_range.mp hk;refine sK (List.mem_flatMap.mpr ?_);by_cases Fv:k<20
  ·exact⟨zq k,List.mem_append_left _ (hf k Fv),((lp (nX Fv)).2.2 _).mpr (by simp)⟩
  ·rw[show k=20 by omega];exact⟨r,mY _ (by simp),((lp gr).2.2 _).mpr h⟩
 rw[vH,List.length_range]at this;exact this
theorem xj {L:List D}(g:pN L)(hl:L.length<=200){ρ:DL.Env}{b:Bool}(e:ρ[0]? = some (some (.lst L,b))):bO (iM (aj 0)) 1 [] (fN 0) (bE (f2 dg (f2 cJ (cI 0 1) (fI 0)) (fS "root"))) (aj 0) ρ=some (.lst (L.filter bx),true):=by
 have:=pA (fi:=iM (aj 0)) (nT:=1) (cap:=[]) (tg:=fN 0) (c:=bE (f2 dg (f2 cJ (cI 0 1) (fI 0)) (fS "root"))) (fe:=aj 0) (ρ:=ρ) L (λx=>x) bx (λx=>x) (by simp[e]) (by omega) λx hx=>by
  obtain⟨ss,h,kind,aA,rfl,_⟩:=g x hx;refine⟨_,rfl,aN (b:=false) (aS (x:=.str kind) (y:=.str "root") (b1:=false) (b2:=false) ?_ rfl (BW _ _)),λ_=>⟨false,by simp[fm]⟩⟩;simp[fm,row,A1,A2]
 simpa using this
theorem lu {l:List D}(h:∀x∈l,bw x=true):bi l=true:=eW h
theorem lQ.flat {L:List D}(g:lQ L):∀x∈L,bw x=true:=λx hx=>by
 obtain⟨j,hj⟩:=List.mem_iff_getElem?.mp hx;exact(g.2 j x hj).flat
theorem lv {l:List D}(h:∀x∈l,x∈dv):∀x∈l,bw x=true:=λx hx=>by
 obtain⟨k,_,rfl⟩:=vO (h x hx);rfl
structure Rf (ak:List D)(p:Nat):Prop where
 ex:∃pre r post,ak=pre++r::post/\p=pre.length/\Fine pre/\pre.length<=60/\(pre.length=60∨du [r]=some (.bl false,false)∨∃ss,fY r ss/\(nR pre r=true∨20<jM (pre++[r])))
 len:ak.length<=62
theorem pY:aE [.int 20]=some (.str (cS 20),false):=(eZ (by decide)).1
theorem rh {L:List D}{xs:List Int}{x1 x2 x3:Int}(g:lQ L)(h1:xs[1]? = some x1)(h2:xs[2]? = some x2)(h3:xs[3]? = some x3):
  ∃ak p,dJ [.lst L,.lst (xs.map .int)]=some (.lst [.lst ak,.int ((p:Nat):Int)],true)/\Rf ak p:=by
 have hL:=g.1;have Mj:=mod_lt (x:=x2) (m:=20) (by decide);obtain⟨q,hq⟩:∃q:Nat,x2 % 20=(q:Int):=⟨(x2 % 20).toNat,by omega⟩;have Fw:q<20:=by omega
 let S:List D:=(L.filter bx).take 20;have hS:S.length<=20:=by simp[S];omega
 have JY:S.Sublist L:=(List.take_sublist _ _).trans List.filter_sublist;have MD:=mod_lt (x:=x3) (m:=((S.length:Int)+1)) (by omega);obtain⟨a,ha⟩:∃a:Nat,x3 % ((S.length:Int)+1)=(a:Int):=⟨(x3 % ((S.length:Int)+1)).toNat,by omega⟩;have ME:a<=S.length:=by omega
 let fd:List D:=dv.drop q++dv.take q;have Im:∀x∈fd,x∈dv:=λx hx=>(List.mem_append.mp hx).elim List.mem_of_mem_drop List.mem_of_mem_take;have Fv:dv.length=20:=by simp[dv]
 have qf:fd.length=20:=by simp[fd,Fv];omega
 have zJ:∀k,k<20->zq k∈fd:=λk hk=>by
  have:zq k∈dv:=List.mem_map.mpr ⟨k,List.mem_range.mpr hk,rfl⟩;rw[←List.take_append_drop q dv]at this;rcases List.mem_append.mp this with h|h
  ·exact mY _ h
  ·exact List.mem_append_left _ h
 have key:∀(lst:D)(ss:List Str),bw lst=true->fY (.tup [.int 9,lst]) ss->cS 20∈ss ->
   (∀ {h:FS}{r:Option Res},h [some (.lst L,false),some (.lst (xs.map .int),false),some (.lst dv,true),some (lst,false),none,none]=r->∀v,aD (dj (bE (f2 dg (f2 bu (cI 1 1) (fI 2)) (fI 0))) (bt 3 (fA aB (aa (fS "paper") (aa (fI 5) (aa (fA aE (aa (f2 bu (cI 1 2) (fI 20)) af)) (aa (fI 1) (aa (fA aB (aa (fI 0) (aa (fC .non) af))) (aa (fA aE (aa (fI 20) af)) (aa (fA aB (aa (fS "a") af)) af))))))))) aU) h
    [some (.lst L,false),some (.lst (xs.map .int),false),some (.lst dv,true),some (v,false),none,none]=r∨v≠.tup [.str "leave",.int 5,.str (cS 20),.str (cS q),.int 1,.tup [.int 0,.non],.int 0]) ->
   ∃ak p,dJ [.lst L,.lst (xs.map .int)]=some (.lst [.lst ak,.int ((p:Nat):Int)],true)/\Rf ak p:=λlst ss hflat gr hp zN=>by
  refine⟨S.take a++fd++[.tup [.int 9,lst]]++S.drop a,a+20,?_,⟨S.take a++fd,.tup [.int 9,lst],S.drop a,by simp,by simp[qf];omega,(g.fine.sub ((List.take_sublist _ _).trans JY)).app (re Im) (λx _ y hy _ hr=>by
   obtain⟨k,_,rfl⟩:=vO (Im y hy);rw[ls k]at hr;cases hr),by simp[qf];omega,.inr (.inr ⟨ss,gr,.inr (rg (λk hk=>mY _ (zJ k hk)) gr hp)⟩)⟩,by simp[qf];omega⟩
  have q2:∀ {ρ:DL.Env},ρ[1]? = some (some (.lst (xs.map .int),false))->f2 bu (cI 1 2) (fI 20) ρ=some (.int (q:Int),false):=λ{ρ} e=>aS (x:=.int x2) (y:=.int 20) (b1:=false) (b2:=false) (xh (i:=1) (j:=2) (xs:=xs) (b:=false) e h2) rfl (by rw[gy _ (by decide),hq]);have pq:∀ {ρ:DL.Env},ρ[1]? = some (some (.lst (xs.map .int),false))->fA aE (aa (f2 bu (cI 1 2) (fI 20)) af) ρ=some (.str (cS q),false):=λ{ρ} e=>ai (ds:=[.int q]) (aq (q2 e) rfl) (eZ (by omega)).1;have Mk:∀ {ρ:DL.Env},fA aE (aa (fI 20) af) ρ=some (.str (cS 20),false):=λ{ρ}=>ai (ds:=[.int 20]) rfl pY;have c0:=mB (fi:=bC (fI 20)) (nT:=1) (cap:=[]) (tg:=fN 0) (fe:=fA aB (aa (fI 9999) (aa (fA aB (aa (fS "death") (aa (fI 1) (aa (fA aE (fV 0 af)) af)))) af))) (ρ:=[some (.lst L,false),some (.lst (xs.map .int),false),none,none,none,none]) (List.range 20) (λk=>.int (k:Int)) zq (by
    rw[dc (j:=20) (b:=false) rfl (by decide)];simp[bB]) (by simp) λk hk=>by
    refine⟨_,rfl,false,ai (ds:=[.int 9999,.tup [.str "death",.int 1,.str (cS k)]]) (aq (b:=false) rfl (aq (b:=false) (ai (ds:=[.str "death",.int 1,.str (cS k)]) (aq (b:=false) rfl (aq (b:=false) rfl (aq (b:=false) (ai (ds:=[.int (k:Int)]) (by simp[fm]) (eZ (by have:=List.mem_range.mp hk;omega)).1) rfl))) (dM _ (by simp))) rfl)) (dM _ (by simp))⟩
  refine aF rfl (gp (ds:=dv) c0 (lu (lv λx hx=>hx)) (fE (d:=.tup [.str "leave",.int 5,.str (cS 20),.str (cS q),.int 1,.tup [.int 0,.non],.int 0]) (b:=false) (ai (ds:=[.str "leave",.int 5,.str (cS 20),.str (cS q),.int 1,.tup [.int 0,.non],.int 0]) (aq (b:=false) rfl (aq (b:=false) rfl (aq Mk (aq (pq rfl) rfl)))) (dM _ (by simp))) rfl ?_));refine((zN ?_ (.tup [.str "leave",.int 5,.str (cS 20),.str (cS q),.int 1,.tup [.int 0,.non],.int 0])).resolve_right λz=>z rfl);refine gp (ds:=fd) (aS (x:=.lst (dv.drop q)) (y:=.lst (dv.take q)) (b1:=true) (b2:=true) (Hd (b:=false) (b2:=false) rfl (q2 rfl)) (FJ (b:=false) (b2:=false) rfl (q2 rfl)) (pX (by simp[Fv];omega))) (lu (lv Im)) ?_;refine gp (ds:=S) (FJ (n:=20) (b:=true) (b2:=false) (xj g.fine.good (by omega) (b:=false) rfl) rfl) (lu λx hx=>g.flat x (JY.subset hx)) ?_;refine fE (d:=.int (a:Int)) (b:=false) (aS (x:=.int x3) (y:=.int ((S.length:Int)+1)) (b1:=false) (b2:=false) (xh (i:=1) (j:=3) (xs:=xs) (b:=false) rfl h3) (by simp) (by rw[gy _ (by omega),ha])) rfl (aR ?_);refine ai (ds:=[.lst (S.take a++fd++[.tup [.int 9,lst]]++S.drop a),.int ((a+20:Nat):Int)]) (aq (b:=true) (aS (x:=.lst (S.take a++fd++[.tup [.int 9,lst]])) (y:=.lst (S.drop a)) (b1:=true) (b2:=true) (aS (x:=.lst (S.take a++fd)) (y:=.lst [.tup [.int 9,lst]]) (b1:=true) (b2:=true) (aS (x:=.lst (S.take a)) (y:=.lst fd) (b1:=true) (b2:=false) (FJ (b:=false) (b2:=false) rfl rfl) rfl (pX (by simp[qf];omega))) (ai (ds:=[.tup [.int 9,lst]]) (aq (b:=false) (ai (ds:=[.int 9,lst]) rfl (dM _ (by simp))) rfl) (fG _ (by simp))) (pX (by simp[qf];omega))) (Hd (b:=false) (b2:=false) rfl rfl) (pX (by simp[qf];omega))) (aq (b:=false) (aS (x:=.int (a:Int)) (y:=.int 20) (b1:=false) (b2:=false) rfl rfl (by simp)) rfl)) (fG _ (by simp))
 have t0:∀ {ρ:DL.Env},ρ[1]? = some (some (.lst (xs.map .int),false))->bE (f2 dg (f2 bu (cI 1 1) (fI 2)) (fI 0)) ρ=some (decide (x1 % 2=0)):=λ{ρ} e=>aN (b:=false) (aS (x:=.int (x1 % 2)) (y:=.int 0) (b1:=false) (b2:=false) (aS (x:=.int x1) (y:=.int 2) (b1:=false) (b2:=false) (xh (i:=1) (j:=1) (xs:=xs) (b:=false) e h1) rfl (gy _ (by decide))) rfl (by simp));by_cases h0:x1 % 2=0
 ·refine key (.tup [.str "paper",.int 5,.str (cS q),.int 1,.tup [.int 0,.non],.str (cS 20),.tup [.str "a"]]) [cS q,cS 20] rfl (up Fw) (by simp) λ{h r} e v=>.inl ?_;have q2:∀ {ρ:DL.Env},ρ[1]? = some (some (.lst (xs.map .int),false))->f2 bu (cI 1 2) (fI 20) ρ=some (.int (q:Int),false):=λ{ρ} e=>aS (x:=.int x2) (y:=.int 20) (b1:=false) (b2:=false) (xh (i:=1) (j:=2) (xs:=xs) (b:=false) e h2) rfl (by rw[gy _ (by decide),hq]);refine gJ (p9 ((t0 rfl).trans (by rw[decide_eq_true h0])) (wM (d:=.tup [.str "paper",.int 5,.str (cS q),.int 1,.tup [.int 0,.non],.str (cS 20),.tup [.str "a"]]) (b:=false) (ai (ds:=[.str "paper",.int 5,.str (cS q),.int 1,.tup [.int 0,.non],.str (cS 20),.tup [.str "a"]]) (aq (b:=false) rfl (aq (b:=false) rfl (aq (b:=false) (ai (ds:=[.int q]) (aq (q2 rfl) rfl) (eZ (by omega)).1) (aq (b:=false) rfl (aq (b:=false) rfl (aq (b:=false) (ai (ds:=[.int 20]) rfl pY) rfl)))))) (dM _ (by simp))) rfl)) e
 ·refine key (.tup [.str "leave",.int 5,.str (cS 20),.str (cS q),.int 1,.tup [.int 0,.non],.int 0]) [cS 20,cS q] rfl (uo Fw) (by simp) λ{h r} e v=>?_;by_cases hv:v=.tup [.str "leave",.int 5,.str (cS 20),.str (cS q),.int 1,.tup [.int 0,.non],.int 0]
  ·exact .inl (aH ((t0 rfl).trans (by rw[decide_eq_false h0])) (by rw[hv];exact e))
  ·exact .inr hv
def zr (aK at':D):Prop:=(at'=.non/\dY [aK,.tup [.ty "list",.ty "tuple"]]=some (.bl false,false)/\aC [aK,.ty "list"]=some (.bl false,false))∨∃ak p,aK=.lst ak/\at'=.int ((p:Nat):Int)/\Rf ak p
theorem axp:cS 0=("axp" : Str):=by decide +kernel
theorem zu {L:List D}(g:lQ L):Rf (L++(List.range (61 - L.length)).map λ(k:Nat)=>row 9999 ("death" : Str) [.int (k:Int),.str "axp"]) 60:=by
 have hL:=g.1;let W:List D:=(List.range (61 - L.length)).map λ(k:Nat)=>row 9999 ("death" : Str) [.int (k:Int),.str "axp"];have hW:W.length=61 - L.length:=by simp[W]
 have zO:∀x∈W,fY x [cS 0]/\bx x=false:=λx hx=>by
  obtain⟨k,hk,rfl⟩:=vO hx;have hk:=List.mem_range.mp hk;refine⟨?_,?_⟩
  ·rw[←axp];exact jy (by omega) (by omega) (by decide) (eZ (by decide)).2
  ·show decide (("death" : Str)=("root" : Str))=false;decide +kernel
 have fW:Fine W:=Fine.noRoot (λx hx=>⟨_,(zO x hx).1⟩) (λx hx=>(zO x hx).2) λx hx s hs=>by
  rw[uT (((lp (zO x hx).1).2.2 s).mp hs)];exact Er (by decide)
 have fA:Fine (L++W):=g.fine.app fW λx _ y hy _ hr=>by rw[(zO y hy).2]at hr;cases hr
 have hl:(L++W).length=61:=by rw[uZ,hW];omega
 have e:L++W=(L++W).take 60++(L++W)[60]'(by omega)::[]:=by
  have:=List.take_append_drop 60 (L++W);rw[List.drop_eq_getElem_cons (by omega),List.drop_eq_nil_of_le (by omega)]at this;exact this.symm
 exact⟨⟨(L++W).take 60,_,[],e,by rw[List.length_take,hl];rfl,fA.sub (List.take_sublist _ _),by rw[List.length_take,hl];decide,.inl (by rw[List.length_take,hl];rfl)⟩,by show(L++W).length<=62;omega⟩
theorem Ca {L:List D}(g:lQ L){a:Nat}(ha:a<=L.length){r:D}(hr:du [r]=some (.bl false,false)):Rf (L.take a++[r]++L.drop a) a:=by
 have hL:=g.1;exact⟨⟨L.take a,r,L.drop a,by simp,by simp;omega,g.fine.sub (List.take_sublist _ _),by simp;omega,.inr (.inl hr)⟩,by simp;omega⟩
theorem Dr.root {k:Nat}{r:D}(g:Dr k r)(h:bx r=true):∃h:Int,0<=h/\h<=9999/\r=row h ("root" : Str) [.str (dN k),.int 7,.int 2,.str "last"]:=by
 rcases g with g|⟨d,p,h0,h1,hp,rfl⟩
 ·exact g
 ·exact absurd h (by show ¬(decide (("death" : Str)=("root" : Str))=true);decide +kernel)
theorem Cb {L:List D}(g:lQ L){a f:Nat}(ha:a<=L.length){rf:D}(hf:L[f]? = some rf)(Io:bx rf=true){h m:Int}(h0:0<=h)(h1:h<=9999)(hm:1<=m/\m<=255):
  Rf (L.take a++[row h ("root" : Str) [.str (dN (f+2)),.int m,.int 0,.str "open"]]++L.drop a) (if a<=f then f+1 else a):=by
 have hL:=g.1;have qf:=(vV hf).1;let lB:D:=row h ("root" : Str) [.str (dN (f+2)),.int m,.int 0,.str "open"];have gs:fY lB []:=pV h0 h1 (xc (by omega)) hm (by decide) um;have rs:bx lB=true:=by show decide (("root" : Str)=("root" : Str))=true;simp
 have os:dL lB=dN (f+2):=rfl;have JZ:dL rf=dN (f+2):=(g.2 f rf hf).off Io;have Ip:Fine [lB]:=⟨λr hr=>⟨[],by rw[uT hr];exact gs⟩,by
  have:([lB].filter bx).map dL=[dN (f+2)]:=by simp[rs,os]
  rw[this];simp,λr hr s hs=>by
  rw[uT hr]at hs;have:=((lp gs).2.2 s).mp hs;cases this⟩
 have other:∀j x,j≠f->L[j]? = some x->bx x=true->dL x≠dN (f+2):=λj x hj hx hr e=>by
  rw[(g.2 j x hx).off hr]at e;have:=(vV hx).1;have:=nU (by omega) (by omega) e;omega
 obtain⟨MF,gr,_⟩:=(g.2 f rf hf).good (by omega);by_cases haf:a<=f
 ·rw[if_pos haf];have eL:L.drop a=(L.drop a).take (f - a)++rf::L.drop (f+1):=by
   have h1:=List.take_append_drop (f - a) (L.drop a);rw[List.drop_drop,show a+(f - a)=f by omega,List.drop_eq_getElem_cons qf,(vV hf).2]at h1;exact h1.symm
  have m1:∀x∈L.take a,∃j,j<a/\L[j]? = some x:=λx hx=>by
   obtain⟨j,hj⟩:=List.mem_iff_getElem?.mp hx;rw[List.getElem?_take]at hj;split at hj
   ·rename_i fH;exact⟨j,fH,hj⟩
   ·cases hj
  have m2:∀x∈(L.drop a).take (f - a),∃j,a<=j/\j<f/\L[j]? = some x:=λx hx=>by
   obtain⟨j,hj⟩:=List.mem_iff_getElem?.mp hx;rw[List.getElem?_take]at hj;split at hj
   ·rename_i fH;rw[List.getElem?_drop]at hj;exact⟨a+j,by omega,by omega,hj⟩
   ·cases hj
  have F1:Fine (L.take a++[lB]):=(g.fine.sub (List.take_sublist _ _)).app Ip λx hx y hy hr _=>by
   obtain⟨j,hj,hx⟩:=m1 x hx;rw[uT hy,os];exact other j x (by omega) hx hr
  have F2:Fine (L.take a++[lB]++(L.drop a).take (f - a)):=F1.app (g.fine.sub ((List.take_sublist _ _).trans (List.drop_sublist _ _))) λx hx y hy hr hr2=>by
   obtain⟨j,MG,MH,hy⟩:=m2 y hy;rcases List.mem_append.mp hx with hx|hx
   ·obtain⟨i,hi,hx⟩:=m1 x hx;intro e;rw[(g.2 i x hx).off hr,(g.2 j y hy).off hr2]at e;have:=nU (by omega) (by omega) e;omega
   ·rw[uT hx,os];exact λe=>other j y (by omega) hy hr2 e.symm
  refine⟨⟨L.take a++[lB]++(L.drop a).take (f - a),rf,L.drop (f+1),by rw[List.append_assoc _ _ (rf::_),←eL],by simp;omega,F2,by simp;omega,.inr (.inr ⟨_,gr,.inl ?_⟩)⟩,by simp;omega⟩;unfold nR;rw[Io,Bool.true_and];refine decide_eq_true (List.mem_map.mpr ⟨lB,List.mem_filter.mpr ⟨List.mem_append_left _ (mY _ (by simp)),rs⟩,by rw[os,JZ]⟩)
 ·rw[if_neg haf];refine⟨⟨L.take a,lB,L.drop a,by simp[lB],by simp;omega,g.fine.sub (List.take_sublist _ _),by simp;omega,.inr (.inr ⟨_,gs,.inl ?_⟩)⟩,by simp;omega⟩;unfold nR;rw[rs,Bool.true_and];refine decide_eq_true (List.mem_map.mpr ⟨rf,List.mem_filter.mpr ⟨?_,Io⟩,by rw[os,JZ]⟩);refine List.mem_iff_getElem?.mpr ⟨f,?_⟩;rw[List.getElem?_take,if_pos (by omega)];exact hf
noncomputable def ri:List D:=[.non,.int 7,.str "rows",.dk [] [],.bl true,.str "",.tup [.int 9,.int 9]]
theorem zv:(ri.take 6).all (λd=>Ax (dY [d,.tup [.ty "list",.ty "tuple"]]) (.bl false) false && Ax (aC [d,.ty "list"]) (.bl false) false)=true:=by decide +kernel
theorem zw {L:List D}{xs:List Int}{x0 x1 x2 x3:Int}(g:lQ L)(h0:xs[0]? = some x0)(h1:xs[1]? = some x1)(h2:xs[2]? = some x2)(h3:xs[3]? = some x3):
  ∃aK at',lb [.lst L,.lst (xs.map .int)]=some (.lst [aK,at'],true)/\zr aK at':=by
 have hL:=g.1;have Ij:=mod_lt (x:=x1) (m:=(L.length:Int)+1) (by omega);obtain⟨a,ha⟩:∃a:Nat,x1 % ((L.length:Int)+1)=(a:Int):=⟨(x1 % ((L.length:Int)+1)).toNat,by omega⟩;have Ka:a<=L.length:=by omega
 let R:OB->OB->OB->OB->DL.Env:=λv4 v5 v6 v7=>[some (.lst L,false),some (.lst (xs.map .int),false),some (.int (x0 % 6),false),some (.int (a:Int),false),v4,v5,v6,v7];have ix:∀ {j:Nat}{x:Int}{v4 v5 v6 v7},xs[j]? = some x->f2 cJ (aj 1) (fI j) (R v4 v5 v6 v7)=some (.int x,false):=λ{j x v4 v5 v6 v7} h=>xh (i:=1) (j:=j) (xs:=xs) (b:=false) rfl h;have qe:∀ {c:Int}{v4 v5 v6 v7},bE (f2 dg (aj 2) (fI c)) (R v4 v5 v6 v7)=some (decide (x0 % 6=c)):=λ{c v4 v5 v6 v7}=>aN (b:=false) (aS (x:=.int (x0 % 6)) (y:=.int c) (b1:=false) (b2:=false) rfl rfl (by simp));have cZ:∀ {d:D}{b:Bool}{k:FS},k (R none none none none)=some (.rt d b)->aD (bt 2 (f2 bu (cI 1 0) (fI 6))) (aD (bt 3 (f2 bu (cI 1 1) (f2 bj (fA cb (fV 0 af)) (fI 1)))) k) [some (.lst L,false),some (.lst (xs.map .int),false),none,none,none,none,none,none]=some (.rt d b):=λ{d b k} e=>
  fE (d:=.int (x0 % 6)) (b:=false) (aS (x:=.int x0) (y:=.int 6) (b1:=false) (b2:=false) (xh (i:=1) (j:=0) (xs:=xs) (b:=false) rfl h0) rfl (gy _ (by decide))) rfl (fE (d:=.int (a:Int)) (b:=false) (aS (x:=.int x1) (y:=.int ((L.length:Int)+1)) (b1:=false) (b2:=false) (xh (i:=1) (j:=1) (xs:=xs) (b:=false) rfl h1) (by simp) (by rw[gy _ (by omega),ha])) rfl e)
 by_cases f0:x0 % 6=0
 ·have MI:=mod_lt (x:=x1) (m:=6) (by decide);obtain⟨j,hj⟩:∃j:Nat,x1 % 6=(j:Int):=⟨(x1 % 6).toNat,by omega⟩;have MJ:j<6:=by omega
  have Ml:j<ri.length:=by show j<7;omega
  have ho:=uR zv ri[j] (List.mem_iff_getElem.mpr ⟨j,by simp[ri];omega,by simp⟩);rw[vC]at ho;refine⟨ri[j],.non,aF rfl (cZ (cM (qe.trans (by rw[decide_eq_true f0])) (aR (ai (ds:=[ri[j],.non]) (aq (b:=false) (aS (x:=.lst ri) (y:=.int (j:Int)) (b1:=true) (b2:=false) rfl (aS (x:=.int x1) (y:=.int 6) (b1:=false) (b2:=false) (ix h1) rfl (by rw[gy _ (by decide),hj])) ?_) rfl) (fG _ (by simp)))))),.inl ⟨rfl,cy ho.1,cy ho.2⟩⟩;simp only[cJ];rw[eO Ml];rfl
 by_cases f1:x0 % 6=1
 ·obtain⟨ak,p,e,rf⟩:=rh g h1 h2 h3;exact⟨.lst ak,.int (p:Int),aF rfl (cZ (aH (qe.trans (by rw[decide_eq_false f0])) (cM (qe.trans (by rw[decide_eq_true f1])) (aR (ai (ds:=[.lst L,.lst (xs.map .int)]) rfl e))))),.inr ⟨ak,p,rfl,rfl,rf⟩⟩
 let T:List Nat:=(List.range L.length).filter λk=>bx (L.getD k .non);have hT:∀k∈T,k<L.length/\bx (L.getD k .non)=true:=λk hk=>by
  obtain⟨h1,h2⟩:=List.mem_filter.mp hk;exact⟨List.mem_range.mp h1,h2⟩
 have MK:T.length<=40:=vR (List.length_filter_le _ _) (by simp;omega);let tl:List D:=T.map λ(k:Nat)=>.int (k:Int);have there:bO (bC (fA cb (fV 0 af))) 1 [0] (fN 0) (bE (f2 dg (f2 cJ (f2 cJ (f2 cJ (aj 1) (aj 0)) (fI 1)) (fI 0)) (fS "root"))) (aj 0) (R none none none none)=some (.lst tl,true):=by
  refine pA (fi:=bC (fA cb (fV 0 af))) (nT:=1) (cap:=[0]) (tg:=fN 0) (fe:=aj 0) (List.range L.length) (λ(k:Nat)=>.int (k:Int)) (λk=>bx (L.getD k .non)) (λ(k:Nat)=>.int (k:Int)) ?_ (by simp;omega) λk hk=>?_
  ·rw[dc (j:=L.length) (b:=false) (by simp[R]) (by omega)];simp[bB]
  ·have hk:=List.mem_range.mp hk;have hg:L.getD k .non=L[k]:=by rw[List.getD_eq_getElem?_getD,vU hk];rfl
   obtain⟨ss,h,kind,aA,er,_⟩:=g.fine.good L[k] (List.getElem_mem hk);refine⟨_,rfl,aN (b:=false) (aS (x:=.str kind) (y:=.str "root") (b1:=false) (b2:=false) ?_ rfl ?_),λ_=>⟨false,by simp[fm]⟩⟩
   ·have:=eO hk;rw[er]at this;simp[fm,R,this,row,A1,A2]
   ·rw[hg,er];exact BW _ _
 have Fx:bi tl=true:=eW λx hx=>by obtain⟨k,_,rfl⟩:=vO hx;rfl
 have Iq:∀ {d:D}{b:Bool}{k:FS},k (R (some (.lst tl,true)) none none none)=some (.rt d b)->aD (dj (bE (f2 dg (aj 2) (fI 0))) (aX (fA bA (aa (f2 cJ (fA bA (aa (fC .non) (aa (fI 7) (aa (fS "rows") (aa GV (aa (fC (.bl true)) (aa (fS "") (aa (fA aB (aa (fI 9) (aa (fI 9) af))) af)))))))) (f2 bu (cI 1 1) (fI 6))) (aa (fC .non) af)))) aU) (aD (dj (bE (f2 dg (aj 2) (fI 1))) (aX (fA dJ (fV 0 (fV 1 af)))) aU) (aD (bt 4 (bO (bC (fA cb (fV 0 af))) 1 [0] (fN 0) (bE (f2 dg (f2 cJ (f2 cJ (f2 cJ (aj 1) (aj 0)) (fI 1)) (fI 0)) (fS "root"))) (aj 0))) k)) (R none none none none)=some (.rt d b):=λ{d b k} e=>
  aH (qe.trans (by rw[decide_eq_false f0])) (aH (qe.trans (by rw[decide_eq_false f1])) (gp (ds:=tl) there Fx e))
 have Fy:∀ {v5 v6 v7},fA cb (fV 4 af) (R (some (.lst tl,true)) v5 v6 v7)=some (.int (T.length:Int),false):=λ{v5 v6 v7}=>by simp[R,tl]
 have cond:dR (bE (f2 dg (aj 2) (fI 2))) (bE (f2 F8 (fA cb (fV 4 af)) (fI 0))) (R (some (.lst tl,true)) none none none)=some (decide (x0 % 6=2) && decide (0<T.length)):=iW qe λ_=>aN (b:=false) (aS (x:=.int (T.length:Int)) (y:=.int 0) (b1:=false) (b2:=false) Fy rfl (by simp));have tk:∀ {v4 v5 v6 v7},iC (aj 0) bQ (bK (aj 3)) (R v4 v5 v6 v7)=some (.lst (L.take a),true):=λ{v4 v5 v6 v7}=>FJ (b:=false) (b2:=false) rfl rfl;have dp:∀ {v4 v5 v6 v7},iC (aj 0) (bK (aj 3)) bQ (R v4 v5 v6 v7)=some (.lst (L.drop a),true):=λ{v4 v5 v6 v7}=>Hd (b:=false) (b2:=false) rfl rfl;have Fz:∀ {fr:FE}{r:D}{br:Bool}{v4 v5 v6 v7},fr (R v4 v5 v6 v7)=some (.lst [r],br)->f2 bj (f2 bj (iC (aj 0) bQ (bK (aj 3))) fr) (iC (aj 0) (bK (aj 3)) bQ) (R v4 v5 v6 v7)=some (.lst (L.take a++[r]++L.drop a),true):=λ{fr r br v4 v5 v6 v7} e=>
  aS (x:=.lst (L.take a++[r])) (y:=.lst (L.drop a)) (b1:=true) (b2:=true) (aS (x:=.lst (L.take a)) (y:=.lst [r]) (b1:=true) (b2:=br) tk e (pX (by simp;omega))) dp (pX (by simp;omega))
 by_cases f2':x0 % 6=2/\0<T.length
 ·have ML:=mod_lt (x:=x2) (m:=(T.length:Int)) (by omega);obtain⟨i,hi⟩:∃i:Nat,x2 % (T.length:Int)=(i:Int):=⟨(x2 % (T.length:Int)).toNat,by omega⟩;have Kb:i<T.length:=by omega
  obtain⟨f,hf⟩:∃f,T[i]=f:=⟨_,rfl⟩;obtain⟨qf,qd⟩:=hT f (by rw[←hf];exact List.getElem_mem Kb);have Mm:L.getD f .non=L[f]:=by rw[List.getD_eq_getElem?_getD,vU qf];rfl
  rw[Mm]at qd;obtain⟨hh,_,_,er⟩:=(g.2 f L[f] (vU qf)).root qd;have Ir:=mod_lt (x:=x3) (m:=10000) (by decide);have Go:=mod_lt (x:=x3) (m:=255) (by decide);have rf:=Cb g Ka (vU qf) qd (h:=x3 % 10000) (m:=1+x3 % 255) Ir.1 (by omega) ⟨by omega,by omega⟩;let lB:D:=row (x3 % 10000) ("root" : Str) [.str (dN (f+2)),.int (1+x3 % 255),.int 0,.str "open"];have e5:f2 cJ (aj 4) (f2 bu (cI 1 2) (fA cb (fV 4 af))) (R (some (.lst tl,true)) none none none)=some (.int (f:Int),false):=by
   refine aS (x:=.lst tl) (y:=.int (i:Int)) (b1:=false) (b2:=false) rfl (aS (x:=.int x2) (y:=.int (T.length:Int)) (b1:=false) (b2:=false) (ix h2) Fy (by rw[gy _ (by omega),hi])) ?_;have sS:i<tl.length:=by simp[tl];exact Kb
   simp only[cJ];rw[eO sS];simp[tl,hf]
  have e6:fA aB (aa (f2 bu (cI 1 3) (fI 10000)) (aa (fA aB (aa (fS "root") (aa (f2 cJ (f2 cJ (f2 cJ (aj 0) (aj 5)) (fI 1)) (fI 1)) (aa (f2 bj (fI 1) (f2 bu (cI 1 3) (fI 255))) (aa (fI 0) (aa (fS "open") af)))))) af)) (R (some (.lst tl,true)) (some (.int (f:Int),false)) none none)=some (lB,false):=by
   refine ai (ds:=[.int (x3 % 10000),.tup [.str "root",.str (dN (f+2)),.int (1+x3 % 255),.int 0,.str "open"]]) (aq (b:=false) (aS (x:=.int x3) (y:=.int 10000) (b1:=false) (b2:=false) (ix h3) rfl (gy _ (by decide))) (aq (b:=false) (ai (ds:=[.str "root",.str (dN (f+2)),.int (1+x3 % 255),.int 0,.str "open"]) (aq (b:=false) rfl (aq (b:=false) ?_ (aq (b:=false) (aS (x:=.int 1) (y:=.int (x3 % 255)) (b1:=false) (b2:=false) rfl (aS (x:=.int x3) (y:=.int 255) (b1:=false) (b2:=false) (ix h3) rfl (gy _ (by decide))) rfl) rfl))) (dM _ (by simp))) rfl)) (dM _ (by simp));have:=eO qf;rw[er]at this;simp[R,this,row,A2]
  have g6:aD (dj (bE (f2 mm (aj 3) (aj 5))) (aX (fA bA (aa (f2 bj (f2 bj (iC (aj 0) bQ (bK (aj 3))) (fA bA (fV 6 af))) (iC (aj 0) (bK (aj 3)) bQ)) (aa (f2 bj (aj 5) (fI 1)) af)))) aU) (aX (fA bA (aa (f2 bj (f2 bj (iC (aj 0) bQ (bK (aj 3))) (fA bA (fV 6 af))) (iC (aj 0) (bK (aj 3)) bQ)) (fV 3 af)))) (R (some (.lst tl,true)) (some (.int (f:Int),false)) (some (lB,false)) none)=some (.rt (.lst [.lst (L.take a++[lB]++L.drop a),.int ((if a<=f then f+1 else a:Nat):Int)]) true):=by
   have c:bE (f2 mm (aj 3) (aj 5)) (R (some (.lst tl,true)) (some (.int (f:Int),false)) (some (lB,false)) none)=some (decide (a<=f)):=aN (b:=false) (aS (x:=.int (a:Int)) (y:=.int (f:Int)) (b1:=false) (b2:=false) rfl rfl (by simp));have gl:=Fz (fr:=fA bA (fV 6 af)) (r:=lB) (br:=true) (v4:=some (.lst tl,true)) (v5:=some (.int (f:Int),false)) (v6:=some (lB,false)) (v7:=none) (ai (ds:=[lB]) rfl (fG _ (by simp)));by_cases haf:a<=f
   ·rw[if_pos haf];exact cM (c.trans (by rw[decide_eq_true haf])) (aR (ai (ds:=[.lst (L.take a++[lB]++L.drop a),.int ((f+1:Nat):Int)]) (aq gl (aq (b:=false) (aS (x:=.int (f:Int)) (y:=.int 1) (b1:=false) (b2:=false) rfl rfl (by simp)) rfl)) (fG _ (by simp))))
   ·rw[if_neg haf];exact aH (c.trans (by rw[decide_eq_false haf])) (aR (ai (ds:=[.lst (L.take a++[lB]++L.drop a),.int (a:Int)]) (aq gl rfl) (fG _ (by simp))))
  refine⟨.lst (L.take a++[lB]++L.drop a),.int ((if a<=f then f+1 else a:Nat):Int),aF rfl (cZ (Iq (cM (cond.trans (by rw[decide_eq_true f2'.1,decide_eq_true f2'.2];rfl)) (fE (d:=.int (f:Int)) (b:=false) e5 rfl (fE (d:=lB) (b:=false) e6 rfl g6))))),.inr ⟨_,_,rfl,rfl,rf⟩⟩
 have c2:(decide (x0 % 6=2) && decide (0<T.length))=false:=by
  rw[Bool.and_eq_false_iff];by_cases h:x0 % 6=2
  ·exact .inr (decide_eq_false λz=>f2' ⟨h,z⟩)
  ·exact .inl (decide_eq_false h)
 by_cases f3:x0 % 6=3
 ·let W:List D:=(List.range (61 - L.length)).map λ(k:Nat)=>row 9999 ("death" : Str) [.int (k:Int),.str "axp"];have ew:bO (bC (f2 lK (fI 61) (fA cb (fV 0 af)))) 1 [] (fN 0) dz (fA aB (aa (fI 9999) (aa (fA aB (aa (fS "death") (fV 0 (aa (fS "axp") af)))) af))) (R (some (.lst tl,true)) none none none)=some (.lst W,true):=by
   refine mB (fi:=bC (f2 lK (fI 61) (fA cb (fV 0 af)))) (nT:=1) (cap:=[]) (tg:=fN 0) (List.range (61 - L.length)) (λ(k:Nat)=>.int (k:Int)) (λ(k:Nat)=>row 9999 ("death" : Str) [.int (k:Int),.str "axp"]) ?_ (by simp;omega) λk hk=>?_
   ·rw[dc (j:=61 - L.length) (b:=false) (by simp[R];omega) (by omega)];simp[bB]
   ·exact⟨_,rfl,false,ai (ds:=[.int 9999,.tup [.str "death",.int (k:Int),.str "axp"]]) (aq (b:=false) rfl (aq (b:=false) (ai (ds:=[.str "death",.int (k:Int),.str "axp"]) rfl (dM _ (by simp))) rfl)) (dM _ (by simp))⟩
  have hW:W.length=61 - L.length:=by simp[W]
  have fl:bi (L++W)=true:=eW λx hx=>(List.mem_append.mp hx).elim (g.flat x) λhx=>by obtain⟨k,_,rfl⟩:=vO hx;rfl
  refine⟨.lst (L++W),.int ((60:Nat):Int),aF rfl (cZ (Iq (aH (cond.trans (by rw[c2])) (cM (qe.trans (by rw[decide_eq_true f3])) (gp (ds:=L++W) (aS (x:=.lst L) (y:=.lst W) (b1:=false) (b2:=true) rfl ew (pX (by rw[hW];omega))) fl (aR (ai (ds:=[.lst (L++W),.int 60]) rfl (fG _ (by simp))))))))),.inr ⟨_,60,rfl,rfl,zu g⟩⟩
 ·obtain⟨r,er,hr⟩:=mM x2;refine⟨.lst (L.take a++[r]++L.drop a),.int (a:Int),aF rfl (cZ (Iq (aH (cond.trans (by rw[c2])) (aH (qe.trans (by rw[decide_eq_false f3])) (aR (ai (ds:=[.lst (L.take a++[r]++L.drop a),.int (a:Int)]) (aq (Fz (br:=true) (ai (ds:=[r]) (aq (b:=false) (ai (ds:=[.int x2]) (aq (b:=false) (ix h2) rfl) er) rfl) (fG _ (by simp)))) rfl) (fG _ (by simp)))))))),.inr ⟨_,a,rfl,rfl,Ca g Ka hr⟩⟩
def lD (ρ:DL.Env)(l:List D):Prop:=ρ.length=l.length/\∀(i:Nat)(d:D),l[i]? = some d->∃b,ρ[i]? = some (some (d,b))
theorem lD.var {ρ:DL.Env}{l:List D}(h:lD ρ l){i:Nat}{d:D}(e:l[i]? = some d):aj i ρ=some (d,false):=by
 obtain⟨b,eb⟩:=h.2 i d e;simp[eb]
theorem lD.put {ρ:DL.Env}{l:List D}(h:lD ρ l)(i:Nat)(d:D)(c:Bool):lD (ρ.set i (some (d,c))) (l.set i d):=by
 refine⟨by simp[h.1],λj x e=>?_⟩;by_cases hij:i=j
 ·subst hij;have hl:i<l.length:=by
   rcases Nat.lt_or_ge i l.length with z|z
   ·exact z
   ·rw[List.getElem?_eq_none (by simp;omega)]at e;cases e
  rw[List.getElem?_set_self hl]at e;cases e
  exact⟨c,by rw[List.getElem?_set_self (by rw[h.1];exact hl)]⟩
 ·rw[vB hij]at e ⊢;exact h.2 j x e
theorem lD.un {ρ:DL.Env}{l:List D}(h:lD ρ l):lD (unown ρ) l:=by
 refine⟨by unfold unown;simp[h.1],λj x e=>?_⟩;obtain⟨b,eb⟩:=h.2 j x e;exact⟨false,by unfold unown;rw[vA,eb];rfl⟩
theorem lD.setE {ρ:DL.Env}{l:List D}(h:lD ρ l)(i:Nat)(d:D)(b:Bool):lD (DL.setE ρ i d b) (l.set i d):=by
 unfold DL.setE;split
 ·exact h.put i d false
 ·split
  ·exact h.put i d true
  ·exact h.un.put i d false
theorem sO {i:Nat}{f:FE}{ρ:DL.Env}{d:D}{b:Bool}(e:f ρ=some (d,b)):bt i f ρ=some (.nx (DL.setE ρ i d b)):=by
 unfold bt;rw[e];rfl
theorem Es:(List.range 30).all (λk=>Ax (aE [.int k]) (.str (cS k)) false)=true:=by decide +kernel
theorem xk {k:Nat}(h:k<30):aE [.int k]=some (.str (cS k),false):=cy (uR Es k (List.mem_range.mpr h))
theorem Cc (ns:List Int):∃c,gQ [.lst (ns.map .int),.int 0]=some (.int c,false):=by
 cases ns with
 |nil=>exact⟨0,aF rfl (aH (aN (b:=false) (by simp)) (aR rfl))⟩
 |cons a l=>exact⟨a,aF rfl (cM (aN (b:=false) (by simp)) (aR (aS (x:=.lst ((a::l).map .int)) (y:=.int 0) (b1:=false) (b2:=false) rfl rfl (by simp[A1]))))⟩
def jT (aK t:D):Prop:=t=aK∨∃ak ex,aK=.lst ak/\t=.lst (ak++ex)/\ex.length<=62
noncomputable def fZ:D->Bool
 |.lst _=>true
 |_=>false
theorem Cd {aK at':D}(c:zr aK at'):aC [aK,.ty "list"]=some (.bl (fZ aK),false):=by
 rcases c with⟨_,_,h⟩|⟨ak,p,rfl,_,_⟩
 ·cases aK<;>first|exact h|(simp[fZ]at h ⊢)
 ·simp[fZ]
theorem zx {aK t:D}(e:jT aK t):fZ t=fZ aK:=by
 rcases e with rfl|⟨ak,ex,rfl,rfl,_⟩<;>rfl
theorem Et {aK at' t:D}(c:zr aK at')(e:jT aK t):aC [t,.ty "list"]=some (.bl (fZ aK),false):=by
 rcases e with rfl|⟨ak,ex,rfl,rfl,_⟩
 ·exact Cd c
 ·simp[fZ]
theorem xl {aK at' t t':D}(c:zr aK at')(e:jT aK t)(h:t'=t∨∃l,t=.lst l/\t'=.tup l):∃d,bp [t']=some (d,false)/\le d at'=true:=by
 rcases c with⟨rfl,h1,h2⟩|⟨ak,p,rfl,rfl,rf⟩
 ·have ht:t=aK:=by
   rcases e with e|⟨ak,ex,rfl,_⟩
   ·exact e
   ·simp at h2
  subst ht;have Ia:t'=t:=by
   rcases h with h|⟨l,rfl,_⟩
   ·exact h
   ·simp at h2
  subst Ia;exact⟨.non,wW h1,rfl⟩
 ·obtain⟨ex,et,u6⟩:∃ex,t=.lst (ak++ex)/\ex.length<=62:=by
   rcases e with e|⟨F0,ex,e1,e2,e3⟩
   ·exact⟨[],by rw[e,uQ],by simp⟩
   ·cases e1;exact⟨ex,e2,e3⟩
  obtain⟨⟨pre,r,post,er,ep,F,hp,hc⟩,bT⟩:=rf;have eq:ak++ex=pre++r::(post++ex):=by rw[er];simp
  have hl:(pre++r::(post++ex)).length<=200:=by rw[←eq,uZ];omega
  refine⟨.int (p:Int),?_,by simp[le]⟩;rw[ep];refine BZ F hp hl hc ?_;rw[←eq];rcases h with h|⟨l,h1,h2⟩
  ·exact .inl (h.trans et)
  ·rw[et]at h1;cases h1;exact .inr h2
theorem pZ {t at':D}{b:Bool}(h:∃d,bp [t]=some (d,false)/\le d at'=true):cD [t,at',.bl b]=some (.bl true,false):=by
 obtain⟨d,h1,h2⟩:=h;show(bp [t]).bind _=_;rw[h1,vI,if_pos h2]
theorem Dr.plain {k:Nat}{r:D}(g:Dr k r):aM 39 r=true:=by
 rcases g with⟨h,h0,h1,rfl⟩|⟨d,p,h0,h1,hp,rfl⟩<;>rfl
def Ce (c:Int):FT:=dR (bE (fA aC (fV 3 (aa (fC (.ty "list")) af)))) (bE (f2 dg (f2 bu (f2 im (cI 2 4) (fI 4)) (fI 4)) (fI c)))
theorem uq {f:FE}{k:FS}{ρ:DL.Env}{a b:D}{c:Bool}(e:f ρ=some (.lst [a,b],c)):aD (mq [3,4] f) k ρ=k (((if bi [a,b]=true then ρ else unown ρ).set 3 (some (a,false))).set 4 (some (b,false))):=by
 have:mq [3,4] f ρ=some (.nx (((if bi [a,b]=true then ρ else unown ρ).set 3 (some (a,false))).set 4 (some (b,false)))):=by
  unfold mq;rw[e];simp[gn]
 unfold aD;rw[this]
theorem law_true (ns:List Int)(EQ:ns.length<=63)(hf:GR ns):∃b,F_law [.lst (ns.map .int)]=some (.bl true,b):=by
 obtain⟨L,eL,g⟩:=zn ns EQ;obtain⟨c0,Mn⟩:=Cc ns;obtain⟨xs,ex,Mi,hx⟩:=mL c0 80 5 (by decide) (by decide);obtain⟨x0,CY⟩:∃z,xs[0]? = some z:=⟨_,vU (by omega)⟩;obtain⟨x1,Gn⟩:∃z,xs[1]? = some z:=⟨_,vU (by omega)⟩;obtain⟨x2,CW⟩:∃z,xs[2]? = some z:=⟨_,vU (by omega)⟩;obtain⟨x3,Ir⟩:∃z,xs[3]? = some z:=⟨_,vU (by omega)⟩;obtain⟨x4,Go⟩:∃z,xs[4]? = some z:=⟨_,vU (by omega)⟩;obtain⟨aK,at',ec,c⟩:=zw g CY Gn CW Ir;have fL:bi L=true:=eW g.flat;have fX:bi (xs.map D.int)=true:=eW λx hx=>by obtain⟨k,_,rfl⟩:=vO hx;rfl
 let l:D->List D:=λt=>[.lst (ns.map .int),.lst L,.lst (xs.map .int),t,at'];let ρa:DL.Env:=[some (.lst (ns.map .int),false),some (.lst L,true),some (.lst (xs.map .int),true),none,none];let ρ1:DL.Env:=((if bi [aK,at']=true then ρa else unown ρa).set 3 (some (aK,false))).set 4 (some (at',false));have H1:lD ρ1 (l aK):=by
  show lD (((if bi [aK,at']=true then ρa else unown ρa).set 3 (some (aK,false))).set 4 (some (at',false))) _;split
  ·refine⟨rfl,λi d e=>?_⟩;match i,e with
   |0,e=>cases e;exact⟨_,rfl⟩
   |1,e=>cases e;exact⟨_,rfl⟩
   |2,e=>cases e;exact⟨_,rfl⟩
   |3,e=>cases e;exact⟨_,rfl⟩
   |4,e=>cases e;exact⟨_,rfl⟩
  ·refine⟨rfl,λi d e=>?_⟩;match i,e with
   |0,e=>cases e;exact⟨_,rfl⟩
   |1,e=>cases e;exact⟨_,rfl⟩
   |2,e=>cases e;exact⟨_,rfl⟩
   |3,e=>cases e;exact⟨_,rfl⟩
   |4,e=>cases e;exact⟨_,rfl⟩
 have ix:∀ {ρ:DL.Env}{t:D}{j:Nat}{x:Int},lD ρ (l t)->xs[j]? = some x->f2 cJ (aj 2) (fI j) ρ=some (.int x,false):=λ{ρ t j x} h e=>by
  obtain⟨b,eb⟩:=h.2 2 (.lst (xs.map .int)) rfl;exact xh (i:=2) (j:=j) (xs:=xs) (b:=b) eb e
 have Kc:∀ {ρ:DL.Env}{t:D},lD ρ (l t)->jT aK t->bE (fA aC (fV 3 (aa (fC (.ty "list")) af))) ρ=some (fZ aK):=λ{ρ t} h e=>aN (b:=false) (ai (ds:=[t,.ty "list"]) (aq (h.var (i:=3) rfl) rfl) (Et c e));have hc:∀ {ρ:DL.Env}{t:D}{k:Int},lD ρ (l t)->jT aK t->Ce k ρ=some (fZ aK && decide (x4 / 4 % 4=k)):=λ{ρ t k} h e=>
  iW (Kc h e) λ_=>aN (b:=false) (aS (x:=.int (x4 / 4 % 4)) (y:=.int k) (b1:=false) (b2:=false) (aS (x:=.int (x4 / 4)) (y:=.int 4) (b1:=false) (b2:=false) (aS (x:=.int x4) (y:=.int 4) (b1:=false) (b2:=false) (ix h Go) rfl (Ep _ (by decide) (by decide))) rfl (gy _ (by decide))) rfl (by simp))
 have E0:jT aK aK:=.inl rfl;let s1:FS:=bt 3 (f2 bj (aj 3) (fA bA (aa (fA dD (aa (cI 2 1) af)) af)));let s2:FS:=bt 3 (f2 bj (aj 3) (bO (bC (f2 lK (fI 62) (fA cb (fV 3 af)))) 1 [] (fN 0) dz (fA aB (aa (fI 9999) (aa (fA aB (aa (fS "death") (aa (fI 7) (aa (fA aE (aa (f2 bu (aj 0) (fI 20)) af)) af)))) af)))));let s3:FS:=aD (bt 3 (f2 bj (aj 3) (bO (bC (fI 30)) 1 [] (fN 0) dz (fA aB (aa (fI 9999) (aa (fA aB (aa (fS "death") (aa (fI 7) (aa (fA aE (fV 0 af)) af)))) af))))))
  (bt 3 (f2 bj (aj 3) (yP (fA bA (aa (fA aB (aa (fI 9) (aa (fA aB (aa (fS "root") (aa (fS "q") (aa (fI 1) (aa (fI 1) (aa (fS "open") af)))))) af))) af)) (fI 2))))
 obtain⟨ρ3,t,e3,H3,E3⟩:∃ρ3 t,(∀ {k:FS}{r:Option Res},k ρ3=r->aD (dj (Ce 1) s1 aU) (aD (dj (Ce 2) s2 aU) (aD (dj (Ce 3) s3 aU) k)) ρ1=r)/\lD ρ3 (l t)/\jT aK t:=by
  cases hb:fZ aK with
  |false=>
   have no:∀ {k:Int},Ce k ρ1=some false:=λ{k}=>(hc H1 E0).trans (by rw[hb];rfl);exact⟨ρ1,aK,λe=>aH no (aH no (aH no e)),H1,E0⟩
  |true=>
   obtain⟨ak,rfl⟩:∃ak,aK=.lst ak:=by
    cases aK<;>first|exact⟨_,rfl⟩|cases hb
   have bT:ak.length<=62:=by
    rcases c with⟨_,_,h⟩|⟨F0,p,e,_,rf⟩
    ·simp at h
    ·cases e;exact rf.len
   have EU:∀ {ρ:DL.Env}{t:D}{k:Int},lD ρ (l t)->jT (.lst ak) t->x4 / 4 % 4=k->Ce k ρ=some true:=λh e z=>(hc h e).trans (by rw[hb,decide_eq_true z];rfl);have no:∀ {ρ:DL.Env}{t:D}{k:Int},lD ρ (l t)->jT (.lst ak) t->x4 / 4 % 4≠k->Ce k ρ=some false:=λh e z=>(hc h e).trans (by rw[hb,decide_eq_false z];rfl);have Gp:∀ {ρ:DL.Env}{a w:List D}{f:FE}{b:Bool},lD ρ (l (.lst a))->f ρ=some (.lst w,b)->a.length+w.length<=1000->bt 3 (f2 bj (aj 3) f) ρ=some (.nx (DL.setE ρ 3 (.lst (a++w)) true))/\lD (DL.setE ρ 3 (.lst (a++w)) true) (l (.lst (a++w))):=λ{ρ a w f b} h e hl=>
    ⟨sO (aS (x:=.lst a) (y:=.lst w) (b1:=false) (b2:=b) (h.var (i:=3) rfl) e (pX hl)),h.setE 3 _ _⟩
   by_cases m1:x4 / 4 % 4=1
   ·obtain⟨r,er,_⟩:=mM x1;obtain⟨a1,H2⟩:=Gp (w:=[r]) (b:=true) (f:=fA bA (aa (fA dD (aa (cI 2 1) af)) af)) H1 (ai (ds:=[r]) (aq (b:=false) (ai (ds:=[.int x1]) (aq (b:=false) (ix H1 Gn) rfl) er) rfl) (fG _ (by simp))) (by simp;omega);have E2:jT (.lst ak) (.lst (ak++[r])):=.inr ⟨ak,[r],rfl,rfl,by simp⟩;exact⟨_,_,λe=>gJ (p9 (EU H1 E0 m1) a1) (aH (no H2 E2 (by omega)) (aH (no H2 E2 (by omega)) e)),H2,E2⟩
   by_cases m2:x4 / 4 % 4=2
   ·let W:List D:=(List.range (62 - ak.length)).map λ(k:Nat)=>row 9999 ("death" : Str) [.int 7,.str (cS (k % 20))];have hW:W.length=62 - ak.length:=by simp[W]
    have ew:bO (bC (f2 lK (fI 62) (fA cb (fV 3 af)))) 1 [] (fN 0) dz (fA aB (aa (fI 9999) (aa (fA aB (aa (fS "death") (aa (fI 7) (aa (fA aE (aa (f2 bu (aj 0) (fI 20)) af)) af)))) af))) ρ1=some (.lst W,true):=by
     refine mB (fi:=bC (f2 lK (fI 62) (fA cb (fV 3 af)))) (nT:=1) (cap:=[]) (tg:=fN 0) (List.range (62 - ak.length)) (λ(k:Nat)=>.int (k:Int)) (λ(k:Nat)=>row 9999 ("death" : Str) [.int 7,.str (cS (k % 20))]) ?_ (by simp;omega) λk hk=>?_
     ·have hv:=H1.var (i:=3) (d:=.lst ak) rfl;rw[dc (j:=62 - ak.length) (b:=false) (aS (x:=.int 62) (y:=.int (ak.length:Int)) (b1:=false) (b2:=false) rfl (ai (ds:=[.lst ak]) (aq hv rfl) (by simp)) (by simp;omega)) (by omega)];simp[bB]
     ·refine⟨_,rfl,false,ai (ds:=[.int 9999,.tup [.str "death",.int 7,.str (cS (k % 20))]]) (aq (b:=false) rfl (aq (b:=false) (ai (ds:=[.str "death",.int 7,.str (cS (k % 20))]) (aq (b:=false) rfl (aq (b:=false) rfl (aq (b:=false) (ai (ds:=[.int ((k % 20:Nat):Int)]) (aq (b:=false) (aS (x:=.int (k:Int)) (y:=.int 20) (b1:=false) (b2:=false) (by simp[fm]) rfl (by rw[gy _ (by decide)];simp)) rfl) (xk (by omega))) rfl))) (dM _ (by simp))) rfl)) (dM _ (by simp))⟩
    obtain⟨a1,H2⟩:=Gp (w:=W) (b:=true) H1 ew (by omega);have E2:jT (.lst ak) (.lst (ak++W)):=.inr ⟨ak,W,rfl,rfl,by omega⟩;exact⟨_,_,λe=>aH (no H1 E0 m1) (gJ (p9 (EU H1 E0 m2) a1) (aH (no H2 E2 (by omega)) e)),H2,E2⟩
   by_cases m3:x4 / 4 % 4=3
   ·let W:List D:=(List.range 30).map λ(k:Nat)=>row 9999 ("death" : Str) [.int 7,.str (cS k)];have hW:W.length=30:=by simp[W]
    have ew:bO (bC (fI 30)) 1 [] (fN 0) dz (fA aB (aa (fI 9999) (aa (fA aB (aa (fS "death") (aa (fI 7) (aa (fA aE (fV 0 af)) af)))) af))) ρ1=some (.lst W,true):=by
     refine mB (fi:=bC (fI 30)) (nT:=1) (cap:=[]) (tg:=fN 0) (List.range 30) (λ(k:Nat)=>.int (k:Int)) (λ(k:Nat)=>row 9999 ("death" : Str) [.int 7,.str (cS k)]) ?_ (by simp) λk hk=>?_
     ·rw[dc (j:=30) (b:=false) rfl (by decide)];simp[bB]
     ·refine⟨_,rfl,false,ai (ds:=[.int 9999,.tup [.str "death",.int 7,.str (cS k)]]) (aq (b:=false) rfl (aq (b:=false) (ai (ds:=[.str "death",.int 7,.str (cS k)]) (aq (b:=false) rfl (aq (b:=false) rfl (aq (b:=false) (ai (ds:=[.int (k:Int)]) (by simp[fm]) (xk (List.mem_range.mp hk))) rfl))) (dM _ (by simp))) rfl)) (dM _ (by simp))⟩
    let qr:D:=.tup [.int 9,.tup [.str "root",.str "q",.int 1,.int 1,.str "open"]];obtain⟨a1,H2⟩:=Gp (w:=W) (b:=true) H1 ew (by omega);obtain⟨a2,H3⟩:=Gp (a:=ak++W) (w:=[qr,qr]) (b:=true) (f:=yP (fA bA (aa (fA aB (aa (fI 9) (aa (fA aB (aa (fS "root") (aa (fS "q") (aa (fI 1) (aa (fI 1) (aa (fS "open") af)))))) af))) af)) (fI 2)) H2 rfl (by simp;omega);have E2:jT (.lst ak) (.lst (ak++W++[qr,qr])):=.inr ⟨ak,W++[qr,qr],rfl,by simp,by simp;omega⟩;exact⟨_,_,λe=>aH (no H1 E0 m1) (aH (no H1 E0 m2) (gJ (p9 (EU H1 E0 m3) (gJ a1 a2)) e)),H3,E2⟩
   ·exact⟨ρ1,_,λe=>aH (no H1 E0 m1) (aH (no H1 E0 m2) (aH (no H1 E0 m3) e)),H1,E0⟩
 let c4:FT:=dR (bE (fA aC (fV 3 (aa (fC (.ty "list")) af)))) (bE (f2 dg (f2 bu (cI 2 4) (fI 2)) (fI 0)));have Kd:c4 ρ3=some (fZ aK && decide (x4 % 2=0)):=iW (Kc H3 E3) λ_=>aN (b:=false) (aS (x:=.int (x4 % 2)) (y:=.int 0) (b1:=false) (b2:=false) (aS (x:=.int x4) (y:=.int 2) (b1:=false) (b2:=false) (ix H3 Go) rfl (gy _ (by decide))) rfl (by simp));obtain⟨ρ4,t',e4,H4,h4⟩:∃ρ4 t',(∀ {k:FS}{r:Option Res},k ρ4=r->aD (dj c4 (bt 3 (fA c9 (fV 3 af))) aU) k ρ3=r)/\lD ρ4 (l t')/\(t'=t∨∃q,t=.lst q/\t'=.tup q):=by
  cases hb:(fZ aK && decide (x4 % 2=0)) with
  |false=>exact⟨ρ3,t,λe=>aH (Kd.trans (by rw[hb])) e,H3,.inl rfl⟩
  |true=>
   obtain⟨q,rfl⟩:∃q,t=.lst q:=by
    have:=zx E3;rw[show fZ aK=true by simp at hb;exact hb.1]at this;cases t<;>first|exact⟨_,rfl⟩|cases this
   exact⟨_,.tup q,λe=>gJ (p9 (Kd.trans (by rw[hb])) (sO (d:=.tup q) (b:=false) (ai (ds:=[.lst q]) (aq (H3.var (i:=3) rfl) rfl) rfl))) e,H3.setE 3 _ _,.inr ⟨q,rfl,rfl⟩⟩
 have rz:=xl c E3 h4;have hr:∀k:Int,fA cD (fV 3 (fV 4 (aa (f2 dg (f2 bu (f2 im (cI 2 4) (fI 2)) (fI 2)) (fI k)) af))) ρ4=some (.bl true,false):=λk=>
  ai (ds:=[t',at',.bl (decide (x4 / 2 % 2=k))]) (aq (H4.var (i:=3) rfl) (aq (H4.var (i:=4) rfl) (aq (b:=false) (aS (x:=.int (x4 / 2 % 2)) (y:=.int k) (b1:=false) (b2:=false) (aS (x:=.int (x4 / 2)) (y:=.int 2) (b1:=false) (b2:=false) (aS (x:=.int x4) (y:=.int 2) (b1:=false) (b2:=false) (ix H4 Go) rfl (Ep _ (by decide) (by decide))) rfl (gy _ (by decide))) rfl (by simp)) rfl))) (pZ rz)
 have hpl:L.all (aM 39)=true:=List.all_eq_true.mpr λr hr=>by obtain⟨j,hj⟩:=List.mem_iff_getElem?.mp hr;exact(g.2 j r hj).plain
 have pt:aM 40 (.tup L)=true:=by simp only[aM];exact hpl
 have Mo:yB (.tup L) (.tup L)=some (.bl false,false):=by unfold yB;rw[if_pos ⟨pt,pt⟩,lg 40 _ pt];rfl
 have hl:=g.1;have vL:=H4.var (i:=1) (d:=.lst L) rfl;refine⟨false,aF rfl (gp (ds:=L) (ai (ds:=[.lst (ns.map .int),.int 40]) rfl eL) fL (gp (ds:=xs.map .int) (ai (ds:=[.int c0,.int 80,.int 5]) (aq (b:=false) (ai (ds:=[.lst (ns.map .int),.int 0]) rfl Mn) rfl) ex) fX ?_))⟩;refine(uq (a:=aK) (b:=at') (c:=true) (ai (ds:=[.lst L,.lst (xs.map .int)]) rfl ec)).trans ?_;refine e3 (e4 (aH (dZ (p:=true) (aN (b:=false) (hr 0))) (aH (aN (b:=false) (aS (x:=.tup L) (y:=.tup L) (b1:=false) (b2:=false) (ai (ds:=[.lst L]) (aq vL rfl) (xg g.fine (by omega) fL (.inl rfl))) (ai (ds:=[.lst L]) (aq vL rfl) rfl) Mo)) (aR (hr 1)))))
end Lw
namespace Lw
open PySem PySem.Spec PyProof.Rows L2 DL
noncomputable def gz (i:Nat):Stmt:=PySem.Challenge.pw_sealchain_k10_no_registers.main.body.getD i (.Pass ⟨0,0,0,0⟩)
noncomputable def xm (s:Stmt):Stmt:=match s with
 |.ClassDef _ _ _ b _ _ _ _ _ _ _=>b.getD 0 (.Pass ⟨0,0,0,0⟩)
 |_=>.Pass ⟨0,0,0,0⟩
structure Gr (K:Frag)(C:Addr):Prop where
 raw:Raw K "NoRegister" (xm (gz 2)) C
 se:∃S,PySem.W.nsIn K mainGlobals "SealError" = some (some (.ref S))/\PySem.W.exmOne K (.ref C) (.ref S)=some true/\PySem.W.kitOne K (.ref C) (.ref S)=some true
 sf:PySem.W.exmOne K (.ref C) (.ref C)=some true/\PySem.W.kitOne K (.ref C) (.ref C)=some true
 ve:PySem.W.kitOne K (.ref C) (.type "ValueError")=some true
 nt:∃D,PySem.W.nsIn K mainGlobals "NoText" = some (some (.ref D))/\PySem.W.kitOne K (.ref C) (.ref D)=some false
 nw:∃D,PySem.W.nsIn K mainGlobals "NoWord" = some (some (.ref D))/\PySem.W.kitOne K (.ref C) (.ref D)=some false
 nn:∃D,PySem.W.nsIn K mainGlobals "NoNumber" = some (some (.ref D))/\PySem.W.kitOne K (.ref C) (.ref D)=some false
section
variable {X:Cx}{es oh:List Expr}{f:FE}{g:FA}{pos:Pos}{k:Nat}{a b:Expr}
theorem cc {c:Const}(h:JE X (.Constant c k pos) f)(hr:JA X es g):JA X (.Constant c k pos::es) (aa f g):=ag h hr
theorem dw (h:JE X (.Tuple oh k pos) f)(hr:JA X es g):JA X (.Tuple oh k pos::es) (aa f g):=ag h hr
theorem Eu (h:JE X (.List oh pos) f)(hr:JA X es g):JA X (.List oh pos::es) (aa f g):=ag h hr
theorem He (h:JE X (.Dict [] [] pos) f)(hr:JA X es g):JA X (.Dict [] [] pos::es) (aa f g):=ag h hr
theorem qa {o:Operator}(h:JE X (.BinOp a o b pos) f)(hr:JA X es g):JA X (.BinOp a o b pos::es) (aa f g):=ag h hr
theorem Ev (h:JE X (.Subscript a b pos) f)(hr:JA X es g):JA X (.Subscript a b pos::es) (aa f g):=ag h hr
theorem xn {kw:List Keyword}(h:JE X (.Call a oh kw pos) f)(hr:JA X es g):JA X (.Call a oh kw pos::es) (aa f g):=ag h hr
end
structure Tx (w:World)(K:Frag)(mg:Str->Option Value):Prop where
 hX:∃h,K.In h/\h.Ns mainGlobals mg
 d0:dU K "is_whole" (gz 9)
 d1:dU K "is_day" (gz 10)
 d2:dU K "is_stretch" (gz 11)
 d3:dU K "is_matters" (gz 12)
 d4:dU K "is_name" (gz 21)
 d5:dU K "is_rule" (gz 23)
 d6:dU K "is_piece" (gz 22)
 d7:dU K "is_pieces" (gz 24)
 d8:dU K "is_change" (gz 25)
 d9:dU K "is_changes" (gz 26)
 d10:dU K "is_part" (gz 27)
 d11:dU K "is_deed" (gz 28)
 d12:dU K "word_of" (gz 31)
 d13:dU K "part_of" (gz 32)
 d14:dU K "day_of" (gz 33)
 d15:dU K "is_timely" (gz 29)
 d16:dU K "is_row" (gz 30)
 d17:dU K "root_offices" (gz 38)
 d18:dU K "is_second_root" (gz 39)
 d19:dU K "parts_in" (gz 34)
 d20:dU K "people_in" (gz 35)
 d21:dU K "count_people" (gz 40)
 d22:dU K "is_refused" (gz 41)
 d23:dU K "register_of" (gz 42)
 d24:dU K "_law_cell_at" (gz 44)
 d25:dU K "_law_stream" (gz 45)
 d26:dU K "_law_person" (gz 46)
 d27:dU K "_law_rows" (gz 47)
 d28:dU K "_law_no_row" (gz 48)
 d29:dU K "_law_crowded" (gz 49)
 d30:dU K "_law_case" (gz 50)
 d31:dU K "_law_right" (gz 51)
 d32:dU K "_law_refused" (gz 52)
 d33:dU K "law" (gz 53)
 cl:∃C,Gr K C
 nV:mg "ValueError" = none
 n0:mg "all" = none
 n1:mg "bool" = none
 n2:mg "int" = none
 n3:mg "isinstance" = none
 n4:mg "len" = none
 n5:mg "list" = none
 n6:mg "min" = none
 n7:mg "range" = none
 n8:mg "set" = none
 n9:mg "sorted" = none
 n10:mg "str" = none
 n11:mg "tuple" = none
 n12:mg "zip" = none
 k0:KC K mg "ALL_MATTERS" hZ
 k1:KC K mg "LAST_DAY" kS
 k2:KC K mg "MOST_FURTHER" gK
 k3:KC K mg "MOST_LETTERS" gL
 k4:KC K mg "MOST_PEOPLE" ia
 k5:KC K mg "MOST_PIECES" fF
 k6:KC K mg "MOST_ROWS" de
 k7:KD w K mg "PARTS" bX
 k8:KC K mg "PERSON_PARTS" cB
 k9:KC K mg "RULES" sG
section
variable {P:Program}{w:World}{K:Frag}{mg:Str->Option Value}{base:Heap}(T:Tx w K mg)
include T
theorem f0:Fn P w K mg base 1 "is_whole" cW:=T.d0.fq T.hX kT ["thing","least","most"] 3 λnd hr hu=>
  (bL (gB (ax aQ T.n3 aJ (bv 0 (ag (dn T.n2 DN) ae))) (gB (Bt (ax aQ T.n3 aJ (bv 0 (ag (dn T.n1 B4) ae)))) (gh (oB gZ gZ (ah 1) (ah 0) (ah 2))))))
theorem f1:Fn P w K mg base 2 "is_day" eQ:=T.d1.fq T.hX pC ["thing"] 1 λnd hr hu=>
  (bL (cn (f0 T) hr (bv 0 (aY (ag (c8 T.k1) ae)))))
theorem f2:Fn P w K mg base 3 "is_stretch" ej:=T.d2.fq T.hX iX ["thing"] 1 λnd hr hu=>
  (ao (cr (gv (ft (cL (cm (ax aQ T.n3 aJ (bv 0 (ag (dn T.n11 cQ) ae))))) (ft (aL (vn hu) (ax db T.n4 cP (bv 0 ae)) al) (eJ (cL (cm (cn (f1 T) hr (ag (bc 0) ae)))))))) eE)
   (bL (vk (eG Bz (bc 0) eF) (gh (gB (cn (f1 T) hr (ag (bc 0) ae)) (gh (eG rX (bc 0) (bc 0))))))))
theorem f3:Fn P w K mg base 2 "is_matters" em:=T.d3.fq T.hX iY ["thing"] 1 λnd hr hu=>
  (bL (cn (f0 T) hr (bv 0 (aY (ag (c8 T.k0) ae)))))
theorem f4:Fn P w K mg base 1 "is_name" e8:=T.d4.fq T.hX mC ["thing"] 1 λnd hr hu=>
  (ao (cr (gv (ft (cL (cm (ax aQ T.n3 aJ (bv 0 (ag (dn T.n10 vq) ae))))) (eJ (cL (oC gZ gZ al (ax db T.n4 cP (bv 0 ae)) (c8 T.k3)))))) eE)
   (bL (ax oP T.n0 oM (ag (hV ["sign"] (gH (ah 0)) fw (oB gZ gZ av (ah 0) av)) ae))))
theorem f5:Fn P w K mg base 1 "is_rule" mE:=T.d5.fq T.hX mD ["thing"] 1 λnd hr hu=>
  (bL (gB (ax aQ T.n3 aJ (bv 0 (ag (dn T.n10 vq) ae))) (gh (eG vp (ah 0) (c8 T.k9)))))
theorem f6:Fn P w K mg base 2 "is_piece" i6:=T.d6.fq T.hX kU ["thing"] 1 λnd hr hu=>
  (bL (bG (f4 T) hr))
theorem f7:Fn P w K mg base 3 "is_pieces" jC:=T.d7.fq T.hX jB ["thing"] 1 λnd hr hu=>
  (ao (cr (gv (ft (cL (cm (ax aQ T.n3 aJ (bv 0 (ag (dn T.n11 cQ) ae))))) (eJ (cL (oC gZ gZ al (ax db T.n4 cP (bv 0 ae)) (c8 T.k5)))))) eE)
   (bL (ax oP T.n0 oM (ag (hV ["piece"] (gH (ah 0)) fw (bG (f6 T) hr)) ae))))
theorem f8:Fn P w K mg base 3 "is_change" jE:=T.d8.fq T.hX jD ["thing"] 1 λnd hr hu=>
  (ao (cr (gv (ft (cL (cm (ax aQ T.n3 aJ (bv 0 (ag (dn T.n11 cQ) ae))))) (eJ (aL (vn hu) (ax db T.n4 cP (bv 0 ae)) al)))) eE)
   (bL (gB (cn (f0 T) hr (ag (bc 0) (aY (ag (ay rN (c8 T.k5) al) ae)))) (gh (cn (f6 T) hr (ag (bc 0) ae))))))
theorem f9:Fn P w K mg base 4 "is_changes" ja:=T.d9.fq T.hX iZ ["thing","places"] 1 λnd hr hu=>
  (ao (cr (gv (ft (cL (cm (ax aQ T.n3 aJ (bv 0 (ag (dn T.n11 cQ) ae))))) (eJ (cL (cm (ax oP T.n0 oM (ag (hV ["change"] (gH (ah 0)) fw (bG (f8 T) hr)) ae))))))) eE)
   (ao (sw ["change"] nd (gH (ah 0)) fw (bc 0))
   (bL (ax oP T.n0 oM (ag (hV ["place","later"] (vM T.n12 (ah 1) (bI (ah 1) (cf al) ce)) fw (eG rX (ah 0) (ah 1))) ae)))))
theorem f10:Fn P w K mg base 5 "is_part" bU:=T.d10.fq T.hX mF ["part","thing"] 2 λnd hr hu=>
  (ao (cr (gv (ft (aL (cV hu) (ah 0) av) (eJ (aL (cV hu) (ah 0) av)))) (bG (f1 T) hr))
   (ao (cr (gv (ft (aL (cV hu) (ah 0) av) (ft (aL (cV hu) (ah 0) av) (eJ (aL (cV hu) (ah 0) av))))) (bG (f4 T) hr))
   (ao (cr (aL (cV hu) (ah 0) av) (vk (eG Bz (ah 1) eF) (gh (bG (f4 T) hr))))
   (ao (cr (aL (cV hu) (ah 0) av) (bG (f3 T) hr))
   (ao (cr (aL (cV hu) (ah 0) av) (bG (f2 T) hr))
   (ao (cr (aL (cV hu) (ah 0) av) (cn (f0 T) hr (bv 1 (aY (ag (c8 T.k2) ae)))))
   (ao (cr (aL (cV hu) (ah 0) av) (bG (f5 T) hr))
   (ao (cr (aL (cV hu) (ah 0) av) (cn (f0 T) hr (bv 1 (aY (ag (ay rN (c8 T.k6) al) ae)))))
   (ao (cr (aL (cV hu) (ah 0) av) (bG (f7 T) hr))
   (bL (bG (f9 T) hr)))))))))))
theorem f11:Fn P w K mg base 6 "is_deed" jv:=T.d11.fq T.hX mG ["thing"] 1 λnd hr hu=>
  (ao (cr (gv (ft (cL (cm (ax aQ T.n3 aJ (bv 0 (ag (dn T.n11 cQ) ae))))) (ft (aL (cV hu) (ax db T.n4 cP (bv 0 ae)) al) (eJ (cL (cm (ax aQ T.n3 aJ (ag (bc 0) (ag (dn T.n10 vq) ae))))))))) eE)
   (ao (cr (gv (ft (tT T.k7 (bc 0)) (eJ (aL (vn hu) (ax db T.n4 cP (bv 0 ae)) (ay aV al (ax db T.n4 cP (ag (nH T.k7 (bc 0)) ae))))))) eE)
   (bL (ax oP T.n0 oM (ag (hV ["part","value"] (vM T.n12 (nH T.k7 (bc 0)) (bI (ah 0) (cf al) ce)) fw (bG (f10 T) hr)) ae)))))
theorem CF:Fn P w K mg base 1 "word_of" bV:=T.d12.fq T.hX mH ["row"] 1 λnd hr hu=>
  (bL (cK (bc 0) al))
theorem FK:Fn P w K mg base 2 "part_of" df:=T.d13.fq T.hX mI ["row","part"] 2 λnd hr hu=>
  (bL (cK (bc 0) (ay aV al (yO T.k7 (bG (CF T) hr) (ah 1)))))
theorem Kx:Fn P w K mg base 3 "day_of" jb:=T.d14.fq T.hX pD ["row"] 1 λnd hr hu=>
  (ao (cr (aL (cV hu) (bG (CF T) hr) av) eF)
   (bL (bG (FK T) hr)))
theorem Ky:Fn P w K mg base 4 "is_timely" gM:=T.d15.fq T.hX jF ["row","day"] 1 λnd hr hu=>
  (ao (bq nd (bG (Kx T) hr))
   (ao (cr (aL Bz (ah 1) eF) eE)
   (ao (cr (gv (ik (aL (cV hu) (bG (CF T) hr) av) (gg (aL rX (bG (FK T) hr) (ah 1))))) eE)
   (bL (eG gZ (ah 1) (bc 0))))))
theorem Kz:Fn P w K mg base 7 "is_row" du:=T.d16.fq T.hX pE ["thing"] 1 λnd hr hu=>
  (ao (cr (gv (ft (cL (cm (ax aQ T.n3 aJ (bv 0 (ag (dn T.n11 cQ) ae))))) (eJ (aL (vn hu) (ax db T.n4 cP (bv 0 ae)) al)))) eE)
   (bL (gB (cn (f1 T) hr (ag (bc 0) ae)) (gB (cn (f11 T) hr (ag (bc 0) ae)) (gh (bG (Ky T) hr))))))
theorem K0:Fn P w K mg base 3 "root_offices" eT:=T.d17.fq T.hX gN ["rows"] 1 λnd hr hu=>
  (bL (hV ["row"] (gH (ah 0)) (np (aL (cV hu) (bG (CF T) hr) av)) (bG (FK T) hr)))
theorem K4:Fn P w K mg base 4 "is_second_root" dB:=T.d18.fq T.hX fU ["ahead","row"] 2 λnd hr hu=>
  (bL (gB (eG (cV hu) (bG (CF T) hr) av) (gh (eG vp (bG (FK T) hr) (bG (K0 T) hr)))))
theorem K5:Fn P w K mg base 2 "parts_in" dC:=T.d19.fq T.hX kW ["row"] 1 λnd hr hu=>
  (bL (qS rfl T.n5 T.n12 (nH T.k7 (bG (CF T) hr)) (bI (bc 0) (cf al) ce)))
theorem K6:Fn P w K mg base 3 "people_in" cC:=T.d20.fq T.hX jG ["row","names"] 1 λnd hr hu=>
  (ao (sw ["part","value"] nd (gH (bG (K5 T) hr)) (np (gv (ik (aL vp (ah 0) (c8 T.k8)) (gg (aL yD (ah 1) eF))))) (ah 1))
   (bL (qO rfl T.n9 T.n8 (ah 1))))
theorem K7:Fn P w K mg base 4 "count_people" eU:=T.d21.fq T.hX gO ["rows","names","row"] 1 λnd hr hu=>
  (ao (bq nd (bR ae))
   (ao (Ee (gH (ah 0)) (BH 2 nd) gA (cz (BD (i:=1) (bG (K6 T) hr))))
   (bL (tR rfl T.n4 T.n8 (ah 1)))))
theorem IN:Fn P w K mg base 8 "is_refused" bf:=T.d22.fq T.hX jc ["book","place"] 2 λnd hr hu=>
  (ao (cr (gv (ft (aL GF (ah 1) (c8 T.k6)) (eJ (cL (cm (cn (Kz T) hr (ag (cK (ah 0) (ah 1)) ae))))))) eE)
   (bL (vk (cn (K4 T) hr (ag (bI (ah 0) ce (cf (ah 1))) (ag (cK (ah 0) (ah 1)) ae))) (gh (eG DH (cn (K7 T) hr (ag (bI (ah 0) ce (cf (ay aV (ah 1) al))) ae)) (c8 T.k4))))))
theorem K8:Fn P w K mg base 9 "register_of" dH:=T.d23.fq T.hX ib ["rows","book","place"] 1 λnd hr hu=>
  (ao (gE (cL (cm (ax m5 T.n3 aJ (bv 0 (ag (aG (ag (dn T.n5 ip) (ag (dn T.n11 cQ) ae))) ae))))) (cz oZ) fz)
   (ao (bq nd (gU jY T.n11 cQ (bv 0 ae)))
   (ao (w4 (iL T.n7 (ax db T.n4 cP (bv 1 ae))) (BH 2 nd) gA (cz (gE (cm (bG (IN T) hr)) (cz oZ) fz)))
   (cz (nu 1)))))
theorem Hf {C:Addr}(c:Gr K C):FnX P w K mg base C "at" 9 "register_of" bp:=by
 have X1:Exc P w K mg base "NoRegister" C "at":=c.raw.exc T.hX;obtain⟨fI,fd,ps,i1,i2,i3,i4⟩:=X1.init;exact T.d23.fqX T.hX gx ["rows","book","place"] 1 λnd hr hu=>
  (nN (Av (cL (cm (ax m5 T.n3 aJ (bv 0 (ag (aG (ag (dn T.n5 ip) (ag (dn T.n11 cQ) ae))) ae))))) (nO (p0 X1.ec i1 i2 i3 (hr.mono (by decide)) i4 X1.nm eF p5)) wH)
   (nN (BP (i:=1) nd (gU jY T.n11 cQ (bv 0 ae)))
   (nN (yZ Ej rfl (iL T.n7 (ax db T.n4 cP (bv 1 ae))) (BH 2 nd) gA (nO (Av (cm (bG (IN T) hr)) (nO (p0 X1.ec i1 i2 i3 (hr.mono (by decide)) i4 X1.nm (ah 2) p5)) wH)))
   (nO wI))))
theorem K9:Fn P w K mg base 1 "_law_cell_at" gQ:=T.d24.fq T.hX jH ["_law_script","_law_k"] 2 λnd hr hu=>
  (ao (cr (aL rX (ah 1) (ax db T.n4 cP (bv 0 ae))) (cK (ah 0) (ah 1)))
   (bL al))
theorem IP:Fn P w K mg base 1 "_law_stream" eV:=T.d25.fq T.hX kX ["_law_cell","_law_salt","_law_many","_law_found","_law_number","_law_k"] 3 λnd hr hu=>
  (ao (bq nd (bR ae))
   (ao (bq nd (ay bP (ay aV (ay aV (ay kB (ay bP (ah 0) al) al) (ay kB (ay kB (ah 1) (ah 1)) al)) al) al))
   (ao (w4 (iL T.n7 (ah 2)) (BH 5 nd) gA (ao (bq nd (ay bP (ay aV (ay aV (ay aV (ay kB (ah 4) (ah 4)) (ay kB al (ah 4))) (ah 5)) (ah 1)) al))
   (cz (qA (i:=3) (ah 4)))))
   (cz (nu 3)))))
theorem A3:Fn P w K mg base 1 "_law_person" aE:=T.d26.fq T.hX kY ["_law_k"] 1 λnd hr hu=>
  (bL (ay aV (ay aV (cK av (ay bP (ah 0) al)) (cK av (ay bP (ay gD (ah 0) al) al))) (cK av (ay gD (ah 0) al))))
theorem KA:Fn P w K mg base 2 "_law_rows" kZ:=T.d27.fq T.hX pF ["_law_script","_law_most","_law_rows_here","_law_k","_law_xs"] 2 λnd hr hu=>
  (ao (bq nd (bR ae))
   (ao (w4 (tU T.n7 al (ax DO T.n6 DM (ag (ax db T.n4 cP (bv 0 ae)) (ag (ay aV al (ah 1)) ae)))) (BH 3 nd) gA (ao (bq nd (cn (IP T) hr (ag (cK (ah 0) (ah 3)) (bv 3 (aY ae)))))
   (cz (gE (aL (cV hu) (ay bP (bc 4) al) al) (cz (qA (i:=2) (aG (ag (ay bP (bc 4) al) (ag (aG (ag av (ag (ay aV (ay aV (cK av (ay bP (ah 3) al)) (cK av (ay gD (ah 3) al))) av) (aY (aY (ag av ae)))))) ae))))) (cz (qA (i:=2) (aG (aY (ag (aG (ag av (ag (ay bP (bc 4) al) (ag (cn (A3 T) hr (ag (ay bP (bc 4) al) ae)) ae)))) ae)))))))))
   (cz (nu 2))))
theorem IQ:Fn P w K mg base 1 "_law_no_row" dD:=T.d28.fq T.hX la ["_law_x","_law_some"] 1 λnd hr hu=>by
  refine @ao _ _ _ _ _ ?_ ?_;refine @bq _ _ _ _ 1 _ _ nd ?_ rfl (by first|exact Or.inl rfl|exact Or.inr rfl) rfl (by first|exact .inl rfl|exact .inr rfl);refine @bR _ _ _ _ ?_;refine cc ?_ ?_;exact eF;refine @aY _ _ _ _ _ _ ?_;refine cc ?_ ?_;exact eE;refine cc ?_ ?_;exact av;refine Eu ?_ ?_;refine @bR _ _ _ _ ?_;refine @aY _ _ _ _ _ _ ?_;refine dw ?_ ?_;refine @aG _ _ _ _ _ ?_;refine cc ?_ ?_;exact av;refine @aY _ _ _ _ _ _ ?_;refine cc ?_ ?_;exact av;exact ae;exact ae;refine dw ?_ ?_;refine @aG _ _ _ _ _ ?_;refine cc ?_ ?_;exact av;refine @aY _ _ _ _ _ _ ?_;refine cc ?_ ?_;exact av;exact ae;refine dw ?_ ?_;refine @aG _ _ _ _ _ ?_;refine @aY _ _ _ _ _ _ ?_;refine dw ?_ ?_;refine @aG _ _ _ _ _ ?_;refine cc ?_ ?_;exact av;refine @aY _ _ _ _ _ _ ?_;refine cc ?_ ?_;exact av;exact ae;exact ae;refine dw ?_ ?_;refine @aG _ _ _ _ _ ?_;exact ae;exact ae;refine @ao _ _ _ _ _ ?_ ?_;refine @bq _ _ _ _ 1 _ _ nd ?_ rfl (by first|exact Or.inl rfl|exact Or.inr rfl) rfl (by first|exact .inl rfl|exact .inr rfl);refine @ay _ _ _ _ _ _ _ _ aV ?_ ?_;exact(ah 1);refine @bR _ _ _ _ ?_;refine dw ?_ ?_;refine @aG _ _ _ _ _ ?_;refine @aY _ _ _ _ _ _ ?_;refine dw ?_ ?_;refine @aG _ _ _ _ _ ?_;refine cc ?_ ?_;exact av;refine @aY _ _ _ _ _ _ ?_;refine cc ?_ ?_;exact av;exact ae;exact ae;refine dw ?_ ?_;refine @aG _ _ _ _ _ ?_;refine @aY _ _ _ _ _ _ ?_;refine dw ?_ ?_;refine @aG _ _ _ _ _ ?_;refine cc ?_ ?_;exact av;refine cc ?_ ?_;exact av;refine @aY _ _ _ _ _ _ ?_;refine @aY _ _ _ _ _ _ ?_;refine cc ?_ ?_;exact av;exact ae;exact ae;refine dw ?_ ?_;refine @aG _ _ _ _ _ ?_;refine @aY _ _ _ _ _ _ ?_;refine dw ?_ ?_;refine @aG _ _ _ _ _ ?_;refine cc ?_ ?_;exact av;refine @aY _ _ _ _ _ _ ?_;refine cc ?_ ?_;exact av;refine @aY _ _ _ _ _ _ ?_;exact ae;exact ae;exact ae;refine @ao _ _ _ _ _ ?_ ?_;refine @bq _ _ _ _ 1 _ _ nd ?_ rfl (by first|exact Or.inl rfl|exact Or.inr rfl) rfl (by first|exact .inl rfl|exact .inr rfl);refine @ay _ _ _ _ _ _ _ _ aV ?_ ?_;exact(ah 1);refine @bR _ _ _ _ ?_;refine dw ?_ ?_;refine @aG _ _ _ _ _ ?_;refine @aY _ _ _ _ _ _ ?_;refine dw ?_ ?_;refine @aG _ _ _ _ _ ?_;refine cc ?_ ?_;exact av;refine cc ?_ ?_;exact av;refine @aY _ _ _ _ _ _ ?_;refine @aY _ _ _ _ _ _ ?_;refine cc ?_ ?_;exact av;exact ae;exact ae;refine dw ?_ ?_;refine @aG _ _ _ _ _ ?_;refine @aY _ _ _ _ _ _ ?_;refine dw ?_ ?_;refine @aG _ _ _ _ _ ?_;refine cc ?_ ?_;exact av;refine @aY _ _ _ _ _ _ ?_;refine cc ?_ ?_;exact av;refine @aY _ _ _ _ _ _ ?_;exact ae;exact ae;refine dw ?_ ?_;refine @aG _ _ _ _ _ ?_;refine @aY _ _ _ _ _ _ ?_;refine Eu ?_ ?_;refine @bR _ _ _ _ ?_;refine cc ?_ ?_;exact av;refine @aY _ _ _ _ _ _ ?_;refine cc ?_ ?_;exact av;exact ae;exact ae;exact ae;refine @ao _ _ _ _ _ ?_ ?_;refine @bq _ _ _ _ 1 _ _ nd ?_ rfl (by first|exact Or.inl rfl|exact Or.inr rfl) rfl (by first|exact .inl rfl|exact .inr rfl);refine @ay _ _ _ _ _ _ _ _ aV ?_ ?_;exact(ah 1);refine @bR _ _ _ _ ?_;refine dw ?_ ?_;refine @aG _ _ _ _ _ ?_;refine @aY _ _ _ _ _ _ ?_;refine dw ?_ ?_;refine @aG _ _ _ _ _ ?_;refine cc ?_ ?_;exact av;refine @aY _ _ _ _ _ _ ?_;refine cc ?_ ?_;exact av;exact ae;exact ae;refine dw ?_ ?_;refine @aG _ _ _ _ _ ?_;refine @aY _ _ _ _ _ _ ?_;refine dw ?_ ?_;refine @aG _ _ _ _ _ ?_;refine cc ?_ ?_;exact av;refine @aY _ _ _ _ _ _ ?_;refine cc ?_ ?_;exact av;refine cc ?_ ?_;exact av;refine @aY _ _ _ _ _ _ ?_;refine dw ?_ ?_;refine @aG _ _ _ _ _ ?_;refine @aY _ _ _ _ _ _ ?_;refine @aY _ _ _ _ _ _ ?_;exact ae;refine @aY _ _ _ _ _ _ ?_;exact ae;exact ae;refine dw ?_ ?_;refine @aG _ _ _ _ _ ?_;refine @aY _ _ _ _ _ _ ?_;refine dw ?_ ?_;refine @aG _ _ _ _ _ ?_;refine cc ?_ ?_;exact av;refine @aY _ _ _ _ _ _ ?_;refine cc ?_ ?_;exact av;exact ae;exact ae;exact ae;exact(bL (cK (ah 1) (ay bP (ah 0) (ax db T.n4 cP (bv 1 ae)))))
theorem KG:Fn P w K mg base 2 "_law_crowded" dJ:=T.d29.fq T.hX jJ ["_law_rows_here","_law_xs","_law_found","_law_last","_law_some","_law_at"] 2 λnd hr hu=>by
  refine @ao _ _ _ _ _ ?_ ?_;exact(sw [ "_law_k" ] nd (gF T.n7 al) fw (aG (aY (ag (aG (ag av (aY (ag (bG (A3 T) hr) ae)))) ae))));refine @ao _ _ _ _ _ ?_ ?_;refine @bq _ _ _ _ 3 _ _ nd ?_ rfl (by first|exact Or.inl rfl|exact Or.inr rfl) rfl (by first|exact .inl rfl|exact .inr rfl);refine @aG _ _ _ _ _ ?_;refine cc ?_ ?_;exact av;refine @aY _ _ _ _ _ _ ?_;refine xn ?_ ?_;exact(cn (A3 T) hr (aY ae));refine xn ?_ ?_;exact(cn (A3 T) hr (ag (ay bP (bc 1) al) ae));refine @aY _ _ _ _ _ _ ?_;refine dw ?_ ?_;refine @aG _ _ _ _ _ ?_;refine @aY _ _ _ _ _ _ ?_;refine cc ?_ ?_;exact eF;exact ae;refine @aY _ _ _ _ _ _ ?_;exact ae;refine @ao _ _ _ _ _ ?_ ?_;refine gE (aL (cV hu) (ay bP (bc 1) al) al) ?_ ?_;refine cz ?_;refine @bq _ _ _ _ 3 _ _ nd ?_ rfl (by first|exact Or.inl rfl|exact Or.inr rfl) rfl (by first|exact .inl rfl|exact .inr rfl);refine @aG _ _ _ _ _ ?_;refine cc ?_ ?_;exact av;refine @aY _ _ _ _ _ _ ?_;refine xn ?_ ?_;exact(cn (A3 T) hr (ag (ay bP (bc 1) al) ae));refine @aY _ _ _ _ _ _ ?_;refine dw ?_ ?_;refine @aG _ _ _ _ _ ?_;refine @aY _ _ _ _ _ _ ?_;refine cc ?_ ?_;exact eF;exact ae;refine xn ?_ ?_;exact(cn (A3 T) hr (aY ae));refine dw ?_ ?_;refine @aG _ _ _ _ _ ?_;refine cc ?_ ?_;exact av;exact ae;exact ae;exact fz;refine @ao _ _ _ _ _ ?_ ?_;exact(bq nd (ay aV (bI (ah 2) (cf (ay bP (bc 1) al)) ce) (bI (ah 2) ce (cf (ay bP (bc 1) al)))));refine @ao _ _ _ _ _ ?_ ?_;exact(bq nd (bI (hV [ "_law_row" ] (gH (ah 0)) (np (aL (cV hu) (cK (bc 0) al) av)) (ah 0)) ce (cf al)));refine @ao _ _ _ _ _ ?_ ?_;exact(bq nd (ay bP (bc 1) (ay aV (ax db T.n4 cP (bv 4 ae)) al)));refine bL ?_;refine @bR _ _ _ _ ?_;refine qa ?_ ?_;refine @ay _ _ _ _ _ _ _ _ aV ?_ ?_;refine @ay _ _ _ _ _ _ _ _ aV ?_ ?_;exact(ay aV (bI (ah 4) ce (cf (ah 5))) (ah 2));refine @bR _ _ _ _ ?_;refine dw ?_ ?_;refine @aG _ _ _ _ _ ?_;refine @aY _ _ _ _ _ _ ?_;refine bv 3 ?_;exact ae;exact ae;exact(bI (ah 4) (cf (ah 5)) ce);refine qa ?_ ?_;exact(ay aV (ah 5) al);exact ae
theorem KH:Fn P w K mg base 3 "_law_case" lb:=T.d30.fq T.hX pG ["_law_rows_here","_law_xs","_law_form","_law_at","_law_there","_law_first","_law_second","_law_more"] 2 λnd hr hu=>by
  refine @ao _ _ _ _ _ ?_ ?_;exact(bq nd (ay bP (bc 1) al));refine @ao _ _ _ _ _ ?_ ?_;exact(bq nd (ay bP (bc 1) (ay aV (ax db T.n4 cP (bv 0 ae)) al)));refine @ao _ _ _ _ _ ?_ ?_;refine cr (aL (cV hu) (ah 2) al) ?_;refine @bR _ _ _ _ ?_;refine Ev ?_ ?_;refine cK (hs:=?_) ?_ ?_;refine @bR _ _ _ _ ?_;refine cc ?_ ?_;exact eF;refine @aY _ _ _ _ _ _ ?_;refine cc ?_ ?_;exact av;refine He ?_ ?_;exact Em;refine cc ?_ ?_;exact eE;refine cc ?_ ?_;exact av;refine dw ?_ ?_;refine @aG _ _ _ _ _ ?_;refine @aY _ _ _ _ _ _ ?_;refine @aY _ _ _ _ _ _ ?_;exact ae;exact ae;exact(ay bP (bc 1) al);intro _ _;rfl;refine cc ?_ ?_;exact eF;exact ae;refine @ao _ _ _ _ _ ?_ ?_;exact(cr (aL (cV hu) (ah 2) al) (bG (KG T) hr));refine @ao _ _ _ _ _ ?_ ?_;exact(sw [ "_law_k" ,"_law_rows_here" ] nd (gF T.n7 (ax db T.n4 cP (bv 0 ae))) (np (aL (cV hu) (cK (cK (cK (ah 1) (ah 0)) al) al) av)) (ah 0));refine @ao _ _ _ _ _ ?_ ?_;refine gE (gv (ik (aL (cV hu) (ah 2) al) (gg (aL DH (ax db T.n4 cP (bv 4 ae)) al)))) ?_ ?_;refine @ao _ _ _ _ _ ?_ ?_;exact(bq nd (cK (ah 4) (ay bP (bc 1) (ax db T.n4 cP (bv 4 ae)))));refine @ao _ _ _ _ _ ?_ ?_;refine @bq _ _ _ _ 6 _ _ nd ?_ rfl (by first|exact Or.inl rfl|exact Or.inr rfl) rfl (by first|exact .inl rfl|exact .inr rfl);refine @aG _ _ _ _ _ ?_;refine qa ?_ ?_;exact(ay bP (bc 1) al);refine dw ?_ ?_;refine @aG _ _ _ _ _ ?_;refine cc ?_ ?_;exact av;refine Ev ?_ ?_;exact(cK (cK (cK (ah 0) (ah 5)) al) al);refine qa ?_ ?_;exact(ay aV al (ay bP (bc 1) al));refine @aY _ _ _ _ _ _ ?_;refine cc ?_ ?_;exact av;exact ae;exact ae;refine @ao _ _ _ _ _ ?_ ?_;refine cr (aL gZ (ah 3) (ah 5)) ?_;refine @bR _ _ _ _ ?_;refine qa ?_ ?_;refine @ay _ _ _ _ _ _ _ _ aV ?_ ?_;refine @ay _ _ _ _ _ _ _ _ aV ?_ ?_;exact(bI (ah 0) ce (cf (ah 3)));refine @bR _ _ _ _ ?_;refine bv 6 ?_;exact ae;exact(bI (ah 0) (cf (ah 3)) ce);refine qa ?_ ?_;exact(ay aV (ah 5) al);exact ae;refine bL ?_;refine @bR _ _ _ _ ?_;refine qa ?_ ?_;refine @ay _ _ _ _ _ _ _ _ aV ?_ ?_;refine @ay _ _ _ _ _ _ _ _ aV ?_ ?_;exact(bI (ah 0) ce (cf (ah 3)));refine @bR _ _ _ _ ?_;refine bv 6 ?_;exact ae;exact(bI (ah 0) (cf (ah 3)) ce);refine bv 3 ?_;exact ae;exact fz;refine @ao _ _ _ _ _ ?_ ?_;refine gE (aL (cV hu) (ah 2) al) ?_ ?_;refine @ao _ _ _ _ _ ?_ ?_;refine @bq _ _ _ _ 7 _ _ nd ?_ rfl (by first|exact Or.inl rfl|exact Or.inr rfl) rfl (by first|exact .inl rfl|exact .inr rfl);refine @ay _ _ _ _ _ _ _ _ aV ?_ ?_;exact(ah 0);exact(hV [ "_law_k" ] (gF T.n7 (ay rN al (ax db T.n4 cP (bv 0 ae)))) fw (aG (aY (ag (aG (ag av (bv 0 (ag av ae)))) ae))));refine bL ?_;refine @bR _ _ _ _ ?_;refine bv 7 ?_;refine @aY _ _ _ _ _ _ ?_;exact ae;exact fz;refine bL ?_;refine @bR _ _ _ _ ?_;refine qa ?_ ?_;refine @ay _ _ _ _ _ _ _ _ aV ?_ ?_;refine @ay _ _ _ _ _ _ _ _ aV ?_ ?_;exact(bI (ah 0) ce (cf (ah 3)));refine @bR _ _ _ _ ?_;refine xn ?_ ?_;exact(cn (IQ T) hr (ag (bc 1) ae));exact ae;exact(bI (ah 0) (cf (ah 3)) ce);refine bv 3 ?_;exact ae
theorem KI {C:Addr}(c:Gr K C):FnS P w K mg base 1 "_law_right" (IK C "at"):=by
 have ⟨_,KX,G⟩:=T.hX;obtain⟨S,s1,_,s3⟩:=c.se;obtain⟨D1,d1,e1⟩:=c.nt;obtain⟨D2,d2,e2⟩:=c.nw;obtain⟨D3,d3,e3⟩:=c.nn;have AE:∀(D:Addr) u',L2.aI (.ref D) u'->u'=Value.ref D:=λD u' h=>h;have Cy:∀(n:String) u',L2.aI (.ty n) u'->u'=Value.type n:=λn u' h=>h;refine T.d31.fqS (k:=0) T.hX ["_law_error","_law_at"] 2 (λvs H Q E ⟨e,dx,v,w,ev,_⟩=>by rw[ev];rfl) λ{f bM A outer s H E vs Q} nd hr h=>?_;have hm:=λ{x:PySem.Str}{D:Addr}(q:PySem.W.nsIn K mainGlobals x=some (some (.ref D)))=>mg_of KX G q;refine⟨_,eA (lV (oo (mN (jt (i:=0) (name:="at") (v:=.ref C) c.raw.ei T.n3 (by rfl) (by exact .inl rfl) (dX (by rfl) (hm c.raw.nm) rfl) (AE C) c.sf.2)) (oo (mN (jt (i:=0) (name:="at") (v:=.ref S) c.raw.ei T.n3 (by rfl) (by exact .inl rfl) (dX (by rfl) (hm s1) rfl) (AE S) s3)) (qi (mN (jt (i:=0) (name:="at") (v:=.ty "ValueError") c.raw.ei T.n3 (by rfl) (by exact .inl rfl) (jW (by rfl) T.nV rfl rfl) (Cy _) c.ve))))).pt (dF (ig u8)) iH)
  (eA (lV (oo (jt (i:=0) (name:="at") (v:=.ref D1) c.raw.ei T.n3 (by rfl) (by exact .inl rfl) (dX (by rfl) (hm d1) rfl) (AE D1) e1) (oo (jt (i:=0) (name:="at") (v:=.ref D2) c.raw.ei T.n3 (by rfl) (by exact .inl rfl) (dX (by rfl) (hm d2) rfl) (AE D2) e2) (qi (jt (i:=0) (name:="at") (v:=.ref D3) c.raw.ei T.n3 (by rfl) (by exact .inl rfl) (dX (by rfl) (hm d3) rfl) (AE D3) e3)))).pt (dF (ig u8)) iH)
  (eA (lV (AQ (uA (ci (i:=1) (by rfl) (by exact .inl rfl)))) (dF (ig (qg (uA (EX.sA c.raw.ei c.raw.na (ci (i:=0) (by rfl) (by exact .inl rfl))))))) iH)
  (dF (ig (mO (fK wK (by rfl) T.n3 rfl (bJ (EX.sA c.raw.ei c.raw.na (ci (i:=0) (by rfl) (by exact .inl rfl))) (bJ (jW (v:=.ty "int") (by rfl) T.n2 rfl rfl) cT))) (mO (uB (fK wK (by rfl) T.n3 rfl (bJ (EX.sA c.raw.ei c.raw.na (ci (i:=0) (by rfl) (by exact .inl rfl))) (bJ (jW (v:=.ty "bool") (by rfl) T.n1 rfl rfl) cT)))) (qj (qg (AO (EX.sA c.raw.ei c.raw.na (ci (i:=0) (by rfl) (by exact .inl rfl))) (ci (i:=1) (by rfl) (by exact .inl rfl))))))))))),?_⟩
 obtain⟨e,dx,v,w,rfl,h1,h2,h3,q⟩:=h;have hx:∃v,HX C "at" 0 v (L2.cZ ["_law_error","_law_at"] [.ref e,w]) H:=⟨v,e,dx,rfl,h1,h2⟩;refine And.intro hx (And.intro hx (And.intro hx (And.intro hx (And.intro hx (And.intro hx ?_)))));refine⟨w,rfl,_,rfl,?_⟩;rcases h3 with⟨rfl,rfl⟩|⟨k,rfl,rfl⟩
 ·exact⟨.ref e,rfl,e,dx,.non,rfl,h1,h2,q⟩
 ·exact⟨.ref e,rfl,e,dx,.int k,rfl,h1,h2,.int k,.type "int",.ty "int",.type "int",true,rfl,.int k,Cy _,(nB K (.int k) (λ_ z=>nomatch z)).1,true,rfl,.ref e,rfl,e,dx,.int k,rfl,h1,h2,.int k,.type "int",.ty "bool",.type "bool",false,rfl,.int k,Cy _,(nB K (.int k) (λ_ z=>nomatch z)).2.1,false,rfl,true,rfl,.ref e,rfl,e,dx,.int k,rfl,h1,h2,.int k,rfl,k,k,rfl,rfl,by show Q (.bl (decide (k=k))) H;rw[decide_eq_true rfl];exact q⟩
theorem IS:Fn P w K mg base 10 "_law_refused" cD:=by
 have ⟨_,KX,G⟩:=T.hX;obtain⟨C,c⟩:=T.cl;obtain⟨S,s1,s2,_⟩:=c.se;obtain⟨ad,fd,ps,F1,m1,k1,b1⟩:=(Hf (P:=P) (w:=w) (base:=base) T c).ex;obtain⟨MM,MN,MO,F2,m2,k2,b2⟩:=(KI (P:=P) (w:=w) (base:=base) T c).ex;have hm:=λ{x:PySem.Str}{D:Addr}(q:PySem.W.nsIn K mainGlobals x=some (some (.ref D)))=>mg_of KX G q;refine FnS.fn (T.d32.fqS (k:=9) T.hX ["_law_thing","_law_at","_law_base","_law_caught","_law_error"] 3 ?len λ{f bM A outer s H E vs Q} nd hr h=>?_)
 case len=>
  rintro vs H Q E ⟨B,ds,d,b,_,i,e,_⟩
  rw[i.length]
  unfold cD at e
  split at e
  ·rfl
  ·cases e
 refine⟨_,eA (mQ (i:=3) nd (by rfl) (by exact .inl rfl) u9)
  (eA (lV (qh (ci (i:=2) (by rfl) (by exact .inl rfl))) (dF (EX.wJ (i:=3) (j:=4) (C:=C) (D:=S) F1 hr (by rfl) m1 k1 b1 (bJ (ci (i:=0) (by rfl) (by exact .inl rfl)) cT) (by rfl) (by rfl) nd (by rfl) (by rfl) (by rfl) (by rfl) (by rfl) (hm s1) s2))
   (dF (EX.wJ (i:=3) (j:=4) (C:=C) (D:=C) F1 hr (by rfl) m1 k1 b1 (bJ (ci (i:=0) (by rfl) (by exact .inl rfl)) cT) (by rfl) (by rfl) nd (by rfl) (by rfl) (by rfl) (by rfl) (by rfl) (hm c.raw.nm) c.sf.1)))
  (dF (ig (mO (qg (xT (ci (i:=3) (by rfl) (by exact .inl rfl)))) (qj (rE F2 (hr.mono (by decide)) (by rfl) m2 k2 b2 .nil (E:=λ_ _ _=>False) Ac (bJ (ci (i:=3) (by rfl) (by exact .inl rfl)) (bJ (ci (i:=1) (by rfl) (by exact .inl rfl)) cT)))))))),?_⟩
 obtain⟨B,ds,d,b,sB,i,e,q⟩:=h;obtain⟨th,a,bs,rfl,e⟩:∃th a bs,ds=[th,a,.bl bs]/\((bp [th]).bind λr=>if le r.1 a=true then some (.bl true,false)else none)=some (d,b):=by
  unfold cD at e;split at e
  ·exact⟨_,_,_,rfl,e⟩
  ·cases e
 obtain⟨r,er,e⟩:=oX e;split at e
 case isFalse=>cases e
 rename_i hs;cases e
 cases i with|cons i0 i=>?_
 cases i with|cons i1 i=>?_
 cases i with|cons i2 i=>?_
 cases i
 cases i2
 rename_i v0 v1;have key:∀(Dn:Ends),(∀e2 dx v H2 N,Ext B N H H2->Is K N v r.1->H2 e2=some (EX.XO e2 C (some dx))->H2 dx=some (.xd [("at",v)])->Dn.nx [some v0,some v1,some (.bl bs),some (.ref e2),none] H2) ->
   EX.Ek (FI K C "at" bp) (km (om 0) tq) C 3 4 Dn [some v0,some v1,some (.bl bs),some .non,none] H:=λDn k=>by
  refine⟨v0,rfl,B,[th],r.1,r.2,sB,.cons i0 .nil,er,λv H' N x iv _ e dx t0 h1 h2 h3=>⟨dx,_,rfl,rfl,sC h3,λe2 Fo=>?_⟩⟩;exact k e2 dx v _ N (x.trans (Ext.grow x.nh (uc h1 h2))) iv Fo (sC h3)
 have g6:∀e2 dx v H2 N,Ext B N H H2->Is K N v r.1->H2 e2=some (EX.XO e2 C (some dx))->H2 dx=some (.xd [("at",v)]) ->
   xV (zS (zR (om 3)) (Aa (IK C "at") [] (λ_ _ _=>False) (km (om 3) (km (om 1) tq)))) { nx:=λ_ H'=>Q .non H',rt:=Q } [some v0,some v1,some (.bl bs),some (.ref e2),none] H2:=λe2 dx v H2 N x iv he hd=>by
  refine⟨.ref e2,rfl,true,rfl,.ref e2,rfl,v1,rfl,e2,dx,v,v1,rfl,he,hd,?_,q (.bl true) H2 N x (.bl true) (λz=>nomatch z)⟩;obtain⟨r1,r2⟩:=r;cases iv<;>cases i1<;>first|(cases hs;done)|exact .inl ⟨rfl,rfl⟩|exact .inr ⟨_,rfl,by rw[of_decide_eq_true hs]⟩
 refine⟨.bl bs,rfl,bs,rfl,?_⟩;cases bs
 ·exact key _ g6
 ·exact key _ g6
theorem head {fa:Addr}(HD:mg "law" = some (.ref fa)):∃fd:FuncData,(∀(s:Shared)(u:Value),BindsTo s fd ⟨[u],[]⟩ [("_law_script",u)])/\∀base:Heap,K.In base->base.Ns mainGlobals mg->fg P w K mg base kq 11 fa fd ["_law_script"] (xK K F_law):=by
 have S:FnScope ["_law_script","_law_rows_here","_law_xs","_law_thing","_law_at"] ["_law_script"] (ar (gz 53)):=by refine⟨rfl,rfl,rfl,?_,rfl,?_,?_⟩<;>decide +kernel
 have ⟨h,X,G⟩:=T.hX;exact dU.law T.d33 X G HD S (λ_ _ _ _ _ _ u=>rfl) λbase kb nb f bM A outer s H E hr=>have hu:=By hr;have nd:=S.nd;(show nZ _ _ A0 from
  (ao (bq nd (cn (KA T) hr (bv 0 (aY ae))))
   (ao (bq nd (cn (IP T) hr (ag (cn (K9 T) hr (bv 0 (aY ae))) (aY (aY ae)))))
   (ao (yL (is:=[3,4]) (bG (KH T) hr) (BC rfl (fJ (BH 3 nd) (fJ (BH 4 nd) mP))))
   (ao (gE (gv (ik (cm (ax aQ T.n3 aJ (bv 3 (ag (dn T.n5 ip) ae)))) (gg (aL (cV hu) (ay bP (ay gD (bc 2) al) al) al)))) (cz (bq nd (ay aV (ah 3) (bR (ag (cn (IQ T) hr (ag (bc 2) ae)) ae))))) fz)
   (ao (gE (gv (ik (cm (ax aQ T.n3 aJ (bv 3 (ag (dn T.n5 ip) ae)))) (gg (aL (cV hu) (ay bP (ay gD (bc 2) al) al) al)))) (cz (bq nd (ay aV (ah 3) (hV ["_law_k"] (gF T.n7 (ay rN al (ax db T.n4 cP (bv 3 ae)))) fw (aG (aY (ag (aG (ag av (aY (ag (cn (A3 T) hr (ag (ay bP (ah 0) al) ae)) ae)))) ae))))))) fz)
   (ao (gE (gv (ik (cm (ax aQ T.n3 aJ (bv 3 (ag (dn T.n5 ip) ae)))) (gg (aL (cV hu) (ay bP (ay gD (bc 2) al) al) al)))) (ao (bq nd (ay aV (ah 3) (hV ["_law_k"] (gF T.n7 al) fw (aG (aY (ag (aG (ag av (aY (ag (bG (A3 T) hr) ae)))) ae))))))
   (cz (bq nd (ay aV (ah 3) (BG (bR (ag (aG (aY (ag (aG (ag av (ag av (aY (aY (ag av ae)))))) ae))) ae)) al))))) fz)
   (ao (gE (gv (ik (cm (ax aQ T.n3 aJ (bv 3 (ag (dn T.n5 ip) ae)))) (gg (aL (cV hu) (ay bP (bc 2) al) al)))) (cz (bq nd (gU jY T.n11 cQ (bv 3 ae)))) fz)
   (ao (cr (cL (cm (cn (IS T) hr (bv 3 (bv 4 (ag (eG (cV hu) (ay bP (ay gD (bc 2) al) al) al) ae)))))) eE)
   (ao (cr (aL (vn hu) (bG (K8 T) hr) (gU jY T.n11 cQ (bv 1 ae))) eE)
   (bL (cn (IS T) hr (bv 3 (bv 4 (ag (eG (cV hu) (ay bP (ay gD (bc 2) al) al) al) ae)))))))))))))))
end
open PySem.W (nsIn isClsIn typeIn subIn)
theorem cl_mk {K:Frag}{C S D1 D2 D3:Addr}(raw:Raw K "NoRegister" (xm (gz 2)) C)
  (a0:nsIn K mainGlobals "SealError" = some (some (.ref S))) (a1:isClsIn K S=true) (a2:typeIn K (.ref S)=some (.type "type")) (a3:subIn K (.ref C) (.ref S)=some true) (a4:subIn K (.ref S) (.type "BaseException")=some true)
  (b1:isClsIn K C=true) (b2:typeIn K (.ref C)=some (.type "type")) (b3:subIn K (.ref C) (.ref C)=some true) (b4:subIn K (.ref C) (.type "BaseException")=some true) (v:subIn K (.ref C) (.type "ValueError")=some true)
  (c0:nsIn K mainGlobals "NoText" = some (some (.ref D1))) (c1:isClsIn K D1=true) (c2:typeIn K (.ref D1)=some (.type "type")) (c3:subIn K (.ref C) (.ref D1)=some false)
  (d0:nsIn K mainGlobals "NoWord" = some (some (.ref D2))) (d1:isClsIn K D2=true) (d2:typeIn K (.ref D2)=some (.type "type")) (d3:subIn K (.ref C) (.ref D2)=some false)
  (e0:nsIn K mainGlobals "NoNumber" = some (some (.ref D3))) (e1:isClsIn K D3=true) (e2:typeIn K (.ref D3)=some (.type "type")) (e3:subIn K (.ref C) (.ref D3)=some false):∃C,Gr K C :=
 ⟨C,raw,⟨S,a0,p7 a1 a2 a3 a4,p6 a1 a2 a3⟩,⟨p7 b1 b2 b3 b4,p6 b1 b2 b3⟩,BS v,⟨D1,c0,ju b3 c1 c2 c3⟩,⟨D2,d0,ju b3 d1 d2 d3⟩,⟨D3,e0,ju b3 e1 e2 e3⟩⟩
end Lw
end
namespace PySem.W.Fast
def tw10183185566909781555:=()
def tw1865386158655889306:=()
def tw8407644843539280959:=()
def tw18084479388816705182:=()
def tw2474517686442826007:=()
def tw8488619272695592872:=()
def tw4604617769245223698:=()
def tw875691532473451125:=()
def tw16937978824375996399:=()
def tw16810422515836754972:=()
def tw6095475927802615247:=()
def tw10593838790461438710:=()
def tw9574748106735757342:=()
def tw7316478428378200763:=()
def tw8113299860201413888:=()
def tw11797709154130796467:=()
def tw9268561452595160668:=()
def tw14989829294706589943:=()
def tw15908989819092034954:=()
def tw10449931205409048127:=()
def tw190102391553935989:=()
def tw4743096441072631807:=()
def tw3328311188171570093:=()
def tw12738490514943892469:=()
def tw13521928888171010877:=()
def tw17001500311585226697:=()
def tw4569982571432390665:=()
def tw13087332470329421662:=()
def tw9689214193368273533:=()
def tw2282577409703618532:=()
def tw15889212216062798092:=()
def tw13350791729052151289:=()
def tw5131829424315794718:=()
def tw10909392727991416921:=()
def tw16217346678384158967:=()
def tw7027635547824410525:=()
def tw4469307185459832608:=()
def tw2096296206861317059:=()
def tw17011475077752804513:=()
def tw16620468151373060035:=()
def tw14835105851976917130:=()
def tw16642232867170705783:=()
def tw7582557777742647596:=()
def tw14021454088496007114:=()
def tw14413234604139456975:=()
def tw9123606478588220582:=()
def tw13268087142554804271:=()
def tw6764410314278091751:=()
def tw1669900378334472877:=()
def tw17592015532042560681:=()
def tw4546744684253046529:=()
def tw13128224272031496742:=()
def tw12754792745898553903:=()
def tw12623114272584119334:=()
def tw11787954581150335503:=()
def tw4489431517471013364:=()
def tw7217162405207816878:=()
def tw6468562752042609581:=()
def tw1764003364988975176:=()
def tw13185811587293742006:=()
def tw17802509210111134870:=()
def tw10355619035750949839:=()
def tw9322268118029066090:=()
def tw3906253614399830525:=()
def tw375094895610493641:=()
def tw2614097236463780327:=()
def tw15016951698298854110:=()
def tw18334465522636182302:=()
def tw7114278522517232027:=()
def tw5927072047474777152:=()
def tw15289845457685214797:=()
def tw15537348895947454396:=()
def tw2447439471712606018:=()
def tw16413577657800212701:=()
def tw17603280719198827835:=()
def tw4002267969923541254:=()
def tw3011603876683267588:=()
def tw14330524858054001437:=()
def tw14883329022486904702:=()
def tw2833408402962198663:=()
end PySem.W.Fast
open PySem PySem.W PyProof.Rows
set_option maxRecDepth 100000 in
set_option maxHeartbeats 0 in
theorem PySem.Challenge.cw_sealchain_k10_no_registers_holds : PySem.Challenge.rw_sealchain_k10_no_registers.Holds := by
 w_on; o_law; k_head; (case hw => w_witness2)
 k_fill
 refine' DL.walkB (l := PySem.Challenge.rw_sealchain_k10_no_registers) (k := 11) (x := ("_law_script" : PySem.Str)) (f := Lw.F_law) (L := [(("in_order" : PySem.Str), ?t0), (("has_seal" : PySem.Str), ?t1), (("is_first_death" : PySem.Str), ?t2), (("bases_by" : PySem.Str), ?t3), (("as_heard" : PySem.Str), ?t4)]) rfl rfl ⟨rfl, by decide, by decide⟩ (fun w h Y => PySem.W.kIn_of Y) ?T ?D ?F Lw.law_true
 case T =>
  intro w
  refine' DL.tabs_fit ?h0 ?h1 ?h2 ?h3 ?h4 ?ap ?nt
  (case h0 => refine' DL.tab_no ?a; (case a => k_is))
  (case h1 => refine' DL.tab_no ?a; (case a => k_is))
  (case h2 => refine' DL.tab_no ?a; (case a => k_is))
  (case h3 => refine' DL.tab_no ?a; (case a => k_is))
  (case h4 => refine' DL.tab_no ?a; (case a => k_is))
  (case ap => decide)
  (case nt => kernel_rfl)
 case D => kernel_rfl
 case F =>
  intro w mg fa h KX G hmg
  refine' Lw.head ⟨⟨h, KX, G⟩, ?d0, ?d1, ?d2, ?d3, ?d4, ?d5, ?d6, ?d7, ?d8, ?d9, ?d10, ?d11, ?d12, ?d13, ?d14, ?d15, ?d16, ?d17, ?d18, ?d19, ?d20, ?d21, ?d22, ?d23, ?d24, ?d25, ?d26, ?d27, ?d28, ?d29, ?d30, ?d31, ?d32, ?d33, Lw.cl_mk ?yraw ?ya0 ?ya1 ?ya2 ?ya3 ?ya4 ?yb1 ?yb2 ?yb3 ?yb4 ?yv ?yc0 ?yc1 ?yc2 ?yc3 ?yd0 ?yd1 ?yd2 ?yd3 ?ye0 ?ye1 ?ye2 ?ye3, PySem.W.mg_none_of KX G ?zV, PySem.W.mg_none_of KX G ?z0, PySem.W.mg_none_of KX G ?z1, PySem.W.mg_none_of KX G ?z2, PySem.W.mg_none_of KX G ?z3, PySem.W.mg_none_of KX G ?z4, PySem.W.mg_none_of KX G ?z5, PySem.W.mg_none_of KX G ?z6, PySem.W.mg_none_of KX G ?z7, PySem.W.mg_none_of KX G ?z8, PySem.W.mg_none_of KX G ?z9, PySem.W.mg_none_of KX G ?z10, PySem.W.mg_none_of KX G ?z11, PySem.W.mg_none_of KX G ?z12, DL.kc_of KX G ?k0, DL.kc_of KX G ?k1, DL.kc_of KX G ?k2, DL.kc_of KX G ?k3, DL.kc_of KX G ?k4, DL.kc_of KX G ?k5, DL.kc_of KX G ?k6, DL.kd_of KX G ?k7, DL.kc_of KX G ?k8, DL.kc_of KX G ?k9⟩ hmg
  iterate 34 (refine' DL.def_mk ?a ?l ?c ?k; (case a => k_is); (case l => k_is); (case c => k_is); (case k => k_is))
  (case yraw => refine' DL.raw_mk ?a0 ?a1 ?a2 ?a3 ?a4 ?a5 ?a6 ?a7 ?a8 ?a9 ?b0 ?b1 ?b2 ?b3 ?b4 ?b5 ?b6 ?b7 ?b8; (case a0 => k_is); (case a1 => k_is); (case a2 => k_is); (case a3 => k_is); (case a4 => k_is); (case a5 => k_is); (case a6 => k_is); (case a7 => k_is); (case a8 => k_is); (case a9 => k_is); (case b0 => k_is); (case b1 => k_is); (case b2 => k_is); (case b3 => k_is); (case b4 => k_is); (case b5 => k_is); (case b6 => k_is); (case b7 => k_is); (case b8 => k_exc))
  (case ya0 => k_is)
  (case ya1 => k_is)
  (case ya2 => k_is)
  (case ya3 => k_is)
  (case ya4 => k_is)
  (case yb1 => k_is)
  (case yb2 => k_is)
  (case yb3 => k_is)
  (case yb4 => k_is)
  (case yv => k_is)
  (case yc0 => k_is)
  (case yc1 => k_is)
  (case yc2 => k_is)
  (case yc3 => k_is)
  (case yd0 => k_is)
  (case yd1 => k_is)
  (case yd2 => k_is)
  (case yd3 => k_is)
  (case ye0 => k_is)
  (case ye1 => k_is)
  (case ye2 => k_is)
  (case ye3 => k_is)
  (case zV => k_is)
  (case z0 => k_is)
  (case z1 => k_is)
  (case z2 => k_is)
  (case z3 => k_is)
  (case z4 => k_is)
  (case z5 => k_is)
  (case z6 => k_is)
  (case z7 => k_is)
  (case z8 => k_is)
  (case z9 => k_is)
  (case z10 => k_is)
  (case z11 => k_is)
  (case z12 => k_is)
  (case k0 => refine' DL.const_int ?e; (case e => k_is))
  (case k1 => refine' DL.const_int ?e; (case e => k_is))
  (case k2 => refine' DL.const_int ?e; (case e => k_is))
  (case k3 => refine' DL.const_int ?e; (case e => k_is))
  (case k4 => refine' DL.const_int ?e; (case e => k_is))
  (case k5 => refine' DL.const_int ?e; (case e => k_is))
  (case k6 => refine' DL.const_int ?e; (case e => k_is))
  (case k7 => refine' DL.const_dict ?e ?l ?r ?s; (case e => k_is); (case l => k_is); (case r => refine' (DL.CRows.tup rfl ?l0 ?f0 (DL.CRows.tup rfl ?l1 ?f1 (DL.CRows.tup rfl ?l2 ?f2 (DL.CRows.tup rfl ?l3 ?f3 (DL.CRows.tup rfl ?l4 ?f4 (DL.CRows.tup rfl ?l5 ?f5 (DL.CRows.tup rfl ?l6 ?f6 (DL.CRows.tup rfl ?l7 ?f7 (DL.CRows.tup rfl ?l8 ?f8 (DL.CRows.tup rfl ?l9 ?f9 (DL.CRows.tup rfl ?l10 ?f10 (DL.CRows.tup rfl ?l11 ?f11 DL.CRows.nil)))))))))))); (case l0 => k_is); (case f0 => decide +kernel); (case l1 => k_is); (case f1 => decide +kernel); (case l2 => k_is); (case f2 => decide +kernel); (case l3 => k_is); (case f3 => decide +kernel); (case l4 => k_is); (case f4 => decide +kernel); (case l5 => k_is); (case f5 => decide +kernel); (case l6 => k_is); (case f6 => decide +kernel); (case l7 => k_is); (case f7 => decide +kernel); (case l8 => k_is); (case f8 => decide +kernel); (case l9 => k_is); (case f9 => decide +kernel); (case l10 => k_is); (case f10 => decide +kernel); (case l11 => k_is); (case f11 => decide +kernel)); (case s => decide +kernel))
  (case k8 => refine' DL.const_tup ?e ?l ?v; (case e => k_is); (case l => k_is); (case v => decide +kernel))
  (case k9 => refine' DL.const_tup ?e ?l ?v; (case e => k_is); (case l => k_is); (case v => decide +kernel))

