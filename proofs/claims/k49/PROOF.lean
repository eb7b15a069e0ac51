import PyProof.Rows.All
import Wide.All
import OpenK.AllK
import Wide.FinOn
import Lean
import PyProof.EqAt
import PyProof.EqKinds
import PyProof.TupleCall
import PyProof.AttrMissHeap
import KE.KIntText
import PyProof.ExcInit
import PyProof.ExcClass2
import PyProof.ExcFactsAll.ValueError
import PyProof.ExcBaseAll.ValueError
import PyProof.ExcArgs
import PyProof.InstStoreFacts
import KE.KTryMore
import PyProof.NsDelKeeps
import PyProof.RulesAs
import PySem.Challenge.RW_sealchain_k49_lines_refused
set_option Elab.async false
set_option linter.all false
set_option maxRecDepth 100000
set_option bootstrap.genMatcherCode false
set_option compiler.extract_closed false
set_option maxHeartbeats 40000000
theorem mY {α:Type _}{a:α}(l:List α){k:List α}(h:a∈k):a∈l++k:=List.mem_append_right l h
theorem mZ {α:Type _}(b:α){a:α}{l:List α}(h:a∈l):a∈b::l:=List.mem_cons_of_mem b h
theorem mX {α:Type _}{a:α}{l:List α}:a∈a::l:=List.mem_cons_self
theorem oX {α β:Type _}{o:Option α}{f:α->Option β}{b:β}(h:o.bind f=some b):∃a,o=some a/\f a=some b:=Option.bind_eq_some_iff.mp h
theorem oY {α β:Type _}{f:α->β}{o:Option α}{b:β}(h:o.map f=some b):∃a,o=some a/\f a=b:=Option.map_eq_some_iff.mp h
def wX:=@PySem.wpAny_bind
def wY:=@PySem.wpAny_pure
def vZ:=@PySem.Heap.get?_push_of_some
def vY:=@PySem.Heap.get?_push_size
def vX:=@PySem.Heap.lt_size
def vW:=@PySem.Heap.SameBut.update
theorem vV {α:Type _}{l:List α}{i:Nat}{a:α}(h:l[i]? = some a):∃h:i<l.length,l[i]=a:=List.getElem?_eq_some_iff.mp h
theorem vU {α:Type _}{l:List α}{i:Nat}(h:i<l.length):l[i]? = some l[i]:=List.getElem?_eq_getElem h
theorem vT (n:Nat):n<=n:=Nat.le_refl n
theorem vS {a b:Nat}(h:a<b):a≠b:=Nat.ne_of_lt h
theorem vR {n m k:Nat}:n<=m->m<=k->n<=k:=Nat.le_trans
theorem vQ {n m k:Nat}:n<m->m<=k->n<k:=Nat.lt_of_lt_of_le
theorem vP {α:Type _}{a b:α}{l:List α}(h:b∈a::l):b=a∨b∈l:=List.mem_cons.mp h
theorem vO {α β:Type _}{b:β}{f:α->β}{l:List α}(h:b∈l.map f):∃a,a∈l/\f a=b:=List.mem_map.mp h
theorem vK {α:Type _}{a b:α}(h:some a=some b):a=b:=Option.some.inj h
theorem vJ {α β:Type _}(a:α)(f:α->Option β):(some a).bind f=f a:=rfl
theorem vI {α β:Type _}{as:List α}(f:α->β):(as.map f).length=as.length:=List.length_map f
theorem vH {α:Type _}{l:List α}:l.toArray.size=l.length:=rfl
theorem vG {α:Type _}{xs:Array α}:xs.toList.length=xs.size:=rfl
theorem vE {α:Type _}{a:α}{as:List α}:(a::as).length=as.length+1:=rfl
theorem vD (a b:Bool):((a && b)=true)=(a=true/\b=true):=Bool.and_eq_true a b
theorem vC {α:Type _}{i j:Nat}{a:α}{l:List α}(h:i≠j):(l.set i a)[j]? = l[j]?:=List.getElem?_set_ne h
theorem vB {α β:Type _}{f:α->β}{l:List α}{i:Nat}:(l.map f)[i]? = Option.map f l[i]?:=List.getElem?_map
theorem vA {α:Type _}{as bs:List α}:(as++bs).length=as.length+bs.length:=List.length_append
theorem uZ {α β:Type _}{f:α->β}{a:α}{l:List α}:(a::l).map f=f a::l.map f:=rfl
theorem uY:false≠true:=Bool.false_ne_true
theorem uW:(false=true)=False:=Bool.false_eq_true
theorem uU {α:Type _}{a b:α}(h:a∈[b]):a=b:=List.mem_singleton.mp h
theorem uR {α:Type _}{l:List α}{p:α->Bool}(h:l.all p=true):∀x∈l,p x=true:=List.all_eq_true.mp h
theorem uQ {α:Type _}(as:List α):as++[]=as:=List.append_nil as
theorem uP {α β γ:Type _}{g:β->γ}{f:α->β}{l:List α}:(l.map f).map g=l.map (g ∘ f):=List.map_map
theorem uM (n:Nat):0<=n:=Nat.zero_le n
noncomputable section
open PySem.W (Frag kia_one fnOf mg_of)
namespace L2
open PySem PySem.Spec PyProof.Rows
abbrev jY:=Sum Int Str
noncomputable def EJ:jY->Value->Bool
 |.inl k,v=>Value.isInt k v
 |.inr x,v=>Value.isStrOf x v
noncomputable def MK (w:World):jY->Int
 |.inl k=>hashInt k
 |.inr x=>hashStr w x
theorem cm:∀ {k:jY}{v:Value},EJ k v=true->(∃i t,k=Sum.inl i/\v=Value.int i t)∨(∃x t,k=Sum.inr x/\v=Value.str x t)
 |.inl i,v,h=>by
  obtain⟨t,e⟩:=Value.isInt_shape (k:=i) (v:=v) h;exact .inl ⟨i,t,rfl,e⟩
 |.inr x,v,h=>by
  obtain⟨t,e⟩:=Value.isStrOf_shape (x:=x) (v:=v) h;exact .inr ⟨x,t,rfl,e⟩
theorem FY (a b:Int):decide ((Sum.inl a:jY)=Sum.inl b)=(a == b):=by
 by_cases e:a=b
 ·subst e;simp
 ·have h:¬(Sum.inl a:jY)=Sum.inl b:=λq=>e (Sum.inl.inj q);rw[decide_eq_false h];exact(beq_eq_false_iff_ne.mpr e).symm
theorem FZ (a b:Str):decide ((Sum.inr a:jY)=Sum.inr b)=decide (a=b):=by
 by_cases e:a=b
 ·subst e;simp
 ·have h:¬(Sum.inr a:jY)=Sum.inr b:=λq=>e (Sum.inr.inj q);rw[decide_eq_false h,decide_eq_false e]
theorem Ga (a:Int)(b:Str):decide ((Sum.inl a:jY)=Sum.inr b)=false:=decide_eq_false (λq=>nomatch q)
theorem Gb (a:Str)(b:Int):decide ((Sum.inr a:jY)=Sum.inl b)=false:=decide_eq_false (λq=>nomatch q)
def ww (prog:Program)(w:World):PySem.KeyKind prog w jY where
 is:=EJ
 hash:=MK w
 inj:=λv a b ha hb=>by
  rcases cm ha with⟨i,t,rfl,rfl⟩|⟨x,t,rfl,rfl⟩
  ·rcases cm hb with⟨j,u,rfl,e⟩|⟨y,u,rfl,e⟩
   ·injection e with e1 _;rw[e1]
   ·exact nomatch e
  ·rcases cm hb with⟨j,u,rfl,e⟩|⟨y,u,rfl,e⟩
   ·exact nomatch e
   ·injection e with e1 _;rw[e1]
 byValue:=λk v h=>by
  rcases cm h with⟨i,t,rfl,rfl⟩|⟨x,t,rfl,rfl⟩<;>rfl
 pyHash:=λhv h=>by
  rcases cm hv with⟨i,t,rfl,rfl⟩|⟨x,t,rfl,rfl⟩
  ·exact wpAny_pyHash_int h
  ·exact wpAny_pyHash_str h
 eqBool:=λhu hv h=>by
  rcases cm hu with⟨i,t,rfl,rfl⟩|⟨x,t,rfl,rfl⟩
  ·rcases cm hv with⟨j,u,rfl,rfl⟩|⟨y,u,rfl,rfl⟩
   ·rw[FY]at h;exact wpAny_eqBool_int h
   ·rw[Ga]at h;exact SeqAt.EqAt.int_str i t y u _ _ _ _ h
  ·rcases cm hv with⟨j,u,rfl,rfl⟩|⟨y,u,rfl,rfl⟩
   ·rw[Gb]at h;exact SeqAt.EqAt.str_int x t j u _ _ _ _ h
   ·rw[FZ]at h;exact wpAny_eqBool_str h
 «strs»:=λk x t v h=>by
  rcases cm h with⟨i,u,rfl,e⟩|⟨y,u,rfl,e⟩
  ·exact nomatch e
  ·injection e with e1 _;subst e1;cases v<;>rfl
inductive V where
 |non|bl (b:Bool)|int (i:Int)|str (x:Str)|byt (b:Array UInt8)|flt (b:UInt64)|ref (a:Addr)|ty (n:String)
 deriving DecidableEq
def aL:V->Value->Prop
 |.non,u=>u=Value.none
 |.bl b,u=>u=Value.bool b
 |.int i,u=>∃t,u=Value.int i t
 |.str x,u=>∃t,u=Value.str x t
 |.byt b,u=>∃t,u=Value.bytes b t
 |.flt b,u=>∃t,u=Value.float b t
 |.ref a,u=>u=Value.ref a
 |.ty n,u=>u=Value.type n
abbrev aS:List V->List Value->Prop:=Paired aL
theorem aS.length (r:aS xs us):xs.length=us.length:=Paired.length r
theorem aS.get:∀ {xs:List V}{us:List Value}{i:Nat}{x:V},aS xs us->xs[i]? = some x->∃u,us[i]? = some u/\aL x u
 |_,_,_,_,.nil,e=>by simp at e
 |_,_,0,_,.cons r _,e=>by simp at e;subst e;exact⟨_,rfl,r⟩
 |_,_,i+1,x,.cons _ t,e=>by
  obtain⟨u,h1,h2⟩:=aS.get (i:=i) (x:=x) t (by simpa using e);exact⟨u,by simpa using h1,h2⟩
theorem aS.set (r:aL x u):∀ {xs:List V}{us:List Value}(i:Nat),aS xs us->aS (xs.set i x) (us.set i u)
 |_,_,_,.nil=>.nil
 |_,_,0,.cons _ t=>.cons r t
 |_,_,i+1,.cons q t=>.cons q (aS.set r i t)
theorem aS.append:∀ {xs ys:List V}{us ws:List Value},aS xs us->aS ys ws->aS (xs++ys) (us++ws)
 |_,_,_,_,.nil,s=>s
 |_,_,_,_,.cons r t,s=>.cons r (aS.append t s)
theorem aS.take:∀ {xs:List V}{us:List Value}(n:Nat),aS xs us->aS (xs.take n) (us.take n)
 |_,_,0,_=>.nil
 |_,_,_+1,.nil=>.nil
 |_,_,n+1,.cons r t=>.cons r (aS.take n t)
theorem aS.drop:∀ {xs:List V}{us:List Value}(n:Nat),aS xs us->aS (xs.drop n) (us.drop n)
 |_,_,0,r=>r
 |_,_,_+1,.nil=>.nil
 |_,_,n+1,.cons _ t=>aS.drop n t
theorem aS.none_of:∀ {xs:List V}{us:List Value}{i:Nat},aS xs us->xs[i]? = none->us[i]? = none:=λ{xs us i} r e=>by
 have h1:=r.length;have h2:xs.length<=i:=List.getElem?_eq_none_iff.mp e;exact List.getElem?_eq_none_iff.mpr (by omega)
def ou:Option V->Option Value->Prop
 |some v,some u=>aL v u
 |none,none=>True
 |_,_=>False
def KV {κ:Type}:List (κ×V)->List (κ×Value)->Prop:=Paired λ(p:κ×V) (q:κ×Value)=>p.1=q.1/\aL p.2 q.2
noncomputable def kV:jY->V
 |.inl i=>.int i
 |.inr x=>.str x
inductive HO where
  |lst (xs:List V)
  |tup (xs:List V)
  |dK (bE:List (jY×V)) (ob:Obj)|dT (bE:List (List jY×V))
  |set (S:Int->Bool) (n:Nat)
  |ins (C dx:Addr) (fs:List (Str×V))
  |own (x:Addr)
  |xd (fs:List (Str×V))
  |met (f x:Addr)
  |rng (lo hi:Int)
  |frz (o:Obj) (u:HO)
  |tbl (q:Str)
  |ext (φ:Heap->Prop)
abbrev Hp:=Addr->Option HO
noncomputable def upd (H:Hp)(a:Addr)(o:HO):Hp:=λb=>if b=a then some o else H b
theorem av:upd H a o a=some o:=by unfold upd;rw[if_pos rfl]
theorem aA (h:b≠a):upd H a o b=H b:=by unfold upd;rw[if_neg h]
theorem mf:upd (upd H a o) a u=upd H a u:=by
 funext b;unfold upd;split<;>rfl
theorem aV {H:Hp}{a b:Addr}{o:HO}(h:H a=some o)(h':H b=none):a≠b:=by
 intro e;subst e;rw[h]at h';cases h'
section
variable (P:Program) (w:World)
def bF (H:Hp)(h:Heap)(a:Addr):HO->Prop
 |.lst xs=>xs.length<=sizeLine/\∃(its:List Value)(n:Nat),aS xs its/\h.get? a=some { cls:=.type "list",data:=.seq its.toArray n }
 |.tup xs=>xs.length<=sizeLine/\∃its:List Value,aS xs its/\IsTup h a its.toArray
 |.dK bE ob=>h.get? a=some ob/\bE.length<=sizeLine/\(a == sysModules)=false/\∃vs,KV bE vs/\h.DictOf (ww P w) a vs
 |.dT bE=>bE.length<=sizeLine/\(a == sysModules)=false/\∃xs:List (List jY×Addr×Value),
   Paired (λ(p:List jY×V) (q:List jY×Addr×Value)=>p.1=q.1/\H q.2.1=some (.tup (p.1.map kV))/\aL p.2 q.2.2) bE xs /\
   ∃o es ep,h.get? a=some o/\o.ExactDict/\o.data=.dict es ep/\es.toList=xs.map (entryOfKey (tupleKind (ww P w)))/\(xs.map (·.1)).Nodup
 |.set S n=>h.SetOf (intKind P w) a S n
 |.ins C dx fs=>H dx=some (.own a)/\fs.length<=1000/\dx≠a/\h.get? a=some (PySem.W.instObj C dx) /\
   ∃mA,h.Ns1 dx mA/\(∀f,ou (fs.lookup f) (mA f))/\PySem.Within mA (fs.map (·.1))
 |.own _=>∃o,h.get? a=some o
 |.xd fs=>∃mA,h.Ns1 a mA/\∀f,ou (fs.lookup f) (mA f)
 |.rng lo hi=>∃t u v,h.get? a=some { cls:=.type "range",data:=.fields #[.int lo t,.int hi u,.int 1 v] }
 |.frz o u=>h.get? a=some o/\bF H h a u
 |.tbl q=>∃ps:Array Value,h.get? a=some { cls:=.none,data:=.fields ps }/\TriplesOk ps.toList/\∀pos cv,codeAmong pos ps.toList=some cv->∃(c:Addr)(oc:Obj)(u:HO)(vs:Array Value)(t:Tok),cv=.ref c/\H c=some (.frz oc u)/\oc.data=.fields vs/\vs[1]? = some (.str q t)
 |.met f x=>h.get? a=some (PySem.W.methodObj (.ref f) (.ref x))
 |.ext φ=>φ h/\(∃o,h.get? a=some o)/\∀h1 h2:Heap,φ h1->(∀o,h1.get? a=some o->h2.get? a=some o)->φ h2
def lC (H:Hp)(h:Heap):Prop:=∀a o,H a=some o->bF P w H h a o
end
section
variable {P:Program}{w:World}{H H':Hp}{h h':Heap}{a:Addr}{o:HO}
theorem bF.lt (x:bF P w H h a o):a<h.objs.size:=by
 cases o with
 |lst xs=>obtain⟨_,_,_,_,e⟩:=x;exact vX e
 |tup xs=>obtain⟨_,_,_,p⟩:=x;exact p.lt
 |dK bE ob=>exact vX (And.left x)
 |dT bE=>obtain⟨_,_,_,_,o,_,_,e,_⟩:=x;exact vX e
 |set S n=>obtain⟨o,_,_,_,e,_⟩:=x;exact vX e
 |ins C dx fs=>obtain⟨_,_,_,e,_⟩:=x;exact vX e
 |own y=>obtain⟨_,e⟩:=x;exact vX e
 |xd fs=>obtain⟨_,⟨_,_,_,e,_⟩,_⟩:=x;exact vX e
 |rng lo hi=>obtain⟨_,_,_,e⟩:=x;exact vX e
 |frz ob u=>obtain⟨e,_⟩:=x;exact vX e
 |tbl q=>obtain⟨_,e,_⟩:=x;exact vX e
 |met f y=>exact vX (show h.get? a=some _ from x)
 |ext φ=>obtain⟨_,⟨_,e⟩,_⟩:=x;exact vX e
theorem Paired.mapP {α β:Type}{F G:α->β->Prop}:∀ {l₁:List α}{l₂:List β},Paired F l₁ l₂->(∀a b,F a b->G a b)->Paired G l₁ l₂
 |_,_,.nil,_=>.nil
 |_,_,.cons r t,f=>.cons (f _ _ r) (Paired.mapP t f)
theorem bF.stay (x:bF P w H h a o)(k:∀b u,(b=a∨H b=some (.own a))->h.get? b=some u->h'.get? b=some u)
  (ho:∀b,H b=some (.own a)->H' b=some (.own a)) (ht:∀b xs,H b=some (.tup xs)->H' b=some (.tup xs)) (hf:∀b o u,H b=some (.frz o u)->H' b=some (.frz o u)):bF P w H' h' a o:=by
 induction o with
 |lst xs=>obtain⟨z,its,n,r,e⟩:=x;exact⟨z,its,n,r,k _ _ (.inl rfl) e⟩
 |tup xs=>obtain⟨z,its,r,ob,e,c⟩:=x;exact⟨z,its,r,ob,k _ _ (.inl rfl) e,c⟩
 |dK bE Rf=>obtain⟨g,z,y,vs,r,ob,es,ep,e,c⟩:=x;exact⟨k _ _ (.inl rfl) g,z,y,vs,r,ob,es,ep,k _ _ (.inl rfl) e,c⟩
 |dT bE=>
  obtain⟨z,y,xs,r,ob,es,ep,e,c⟩:=x;exact⟨z,y,xs,Paired.mapP r λp q z=>⟨z.1,ht _ _ z.2.1,z.2.2⟩,ob,es,ep,k _ _ (.inl rfl) e,c⟩
 |set S n=>obtain⟨ob,es,ep,t,e,c⟩:=x;exact⟨ob,es,ep,t,k _ _ (.inl rfl) e,c⟩
 |ins C dx fs=>
  obtain⟨d,z,ne,e,mA,⟨od,es,ep,e2,c⟩,r⟩:=x;exact⟨ho _ d,z,ne,k _ _ (.inl rfl) e,mA,⟨od,es,ep,k _ _ (.inr d) e2,c⟩,r⟩
 |own y=>obtain⟨ob,e⟩:=x;exact⟨ob,k _ _ (.inl rfl) e⟩
 |xd fs=>obtain⟨mA,⟨od,es,ep,e,c⟩,r⟩:=x;exact⟨mA,⟨od,es,ep,k _ _ (.inl rfl) e,c⟩,r⟩
 |rng lo hi=>obtain⟨t,u,v,e⟩:=x;exact⟨t,u,v,k _ _ (.inl rfl) e⟩
 |frz ob u ih=>obtain⟨e,q⟩:=x;exact⟨k _ _ (.inl rfl) e,ih q⟩
 |tbl q=>obtain⟨ps,e,t,c⟩:=x;exact⟨ps,k a _ (.inl rfl) e,t,λpos cv z=>let ⟨d,oc,u,vs,tk,z1,z2,z3⟩:=c pos cv z;⟨d,oc,u,vs,tk,z1,hf _ _ _ z2,z3⟩⟩
 |met f y=>
  have e:h.get? a=some (PySem.W.methodObj (.ref f) (.ref y)):=x;show h'.get? a=some (PySem.W.methodObj (.ref f) (.ref y));exact k a _ (.inl rfl) e
 |ext φ=>obtain⟨p,⟨o,e⟩,st⟩:=x;exact⟨st _ _ p λo q=>k _ _ (.inl rfl) q,⟨o,k _ _ (.inl rfl) e⟩,st⟩
theorem lC.lt (x:lC P w H h)(e:H a=some o):a<h.objs.size:=(x a o e).lt
theorem lC.fresh (x:lC P w H h)(e:h.objs.size<=a):H a=none:=by
 cases q:H a with
 |none=>rfl
 |some u=>exact absurd (vQ (x.lt q) e) (Nat.lt_irrefl _)
theorem lC.kept (x:lC P w H h)(k:∀b u,h.get? b=some u->h'.get? b=some u):lC P w H h':=λa o e=>
 (x a o e).stay (λb u _ q=>k b u q) (λ_ q=>q) (λ_ _ q=>q) λ_ _ _ q=>q
theorem lC.laid (x:lC P w H h)(k:∀b u,h.get? b=some u->h'.get? b=some u)(hp:h.objs.size<=a)(new:bF P w (upd H a o) h' a o):lC P w (upd H a o) h':=λb u e=>by
 have hn:=x.fresh hp;by_cases hb:b=a
 ·subst hb;rw[av]at e;cases e;exact new
 ·rw[aA hb]at e;exact(x b u e).stay (λc v _ q=>k c v q) (λc q=>by rw[aA (aV q hn)];exact q) (λc xs q=>by rw[aA (aV q hn)];exact q) λc o xs q=>by rw[aA (aV q hn)];exact q
end
def Rd (H:Hp)(a:Addr)(u:HO):Prop:=H a=some u∨∃o,H a=some (.frz o u)
theorem Rd.of (h:H a=some u):Rd H a u:=.inl h
theorem Rd.ok (r:Rd H a u)(x:lC P w H h):bF P w H h a u:=by
 rcases r with r|⟨o,r⟩
 ·exact x a u r
 ·obtain⟨_,q⟩:=x a _ r;exact q
def Mh:Option HO->Prop
 |some (.lst _)=>True
 |some (.dK _ _)=>True
 |some (.dT _)=>True
 |some (.set _ _)=>True
 |some (.ins _ _ _)=>True
 |some (.ext _)=>True
 |_=>False
section
variable {P:Program}{w:World}{H:Hp}{h h':Heap}{x e:Addr}{o':HO}
theorem lC.write (ok:lC P w H h)(mu:Mh (H x))(he:e=x∨H e=some (.own x))(k:∀b u,b≠e->h.get? b=some u->h'.get? b=some u)(IY:∃u,h'.get? e=some u)
  (new:bF P w (upd H x o') h' x o'):lC P w (upd H x o') h':=λb u q=>by
 have Li:∀c y,H c=some (.own y)->c≠x:=λc y r z=>by subst z;rw[r]at mu;exact mu
 have NR:∀c xs,H c=some (.tup xs)->c≠x:=λc xs r z=>by subst z;rw[r]at mu;exact mu
 by_cases hb:b=x
 ·subst hb;rw[av]at q;cases q;exact new
 ·rw[aA hb]at q;by_cases Cv:b=e
  ·have q':H b=some (.own x):=by
    rcases he with z|z
    ·exact absurd (Cv.trans z) hb
    ·rw[Cv];exact z
   rw[q]at q';cases q';obtain⟨v,hv⟩:=IY;exact⟨v,by rw[Cv];exact hv⟩
  ·refine(ok b u q).stay (λc v hc r=>k c v ?_ r) (λc r=>by rw[aA (Li c b r)];exact r) (λc xs r=>by rw[aA (NR c xs r)];exact r) λc o xs r=>by rw[aA (λz=>by subst z;rw[r]at mu;exact mu)];exact r
   rcases hc with rfl|hc
   ·exact Cv
   ·rintro rfl;rcases he with z|z
    ·exact Li c b hc z
    ·rw[hc]at z;cases z;exact hb rfl
end
structure Un (fs ex:List Addr)(H H':Hp)(h h':Heap):Prop where
 keep:∀b o,h.get? b=some o->H b=none->b∉fs->b∉ex->h'.get? b=some o
 slot:∀b o,h.get? b=some o->H b=none->b∈fs->b∉ex->∃sl,h'.get? b=some { o with slots:=sl }
 free:∀b o,h.get? b=some o->H b=none->b∉ex->H' b=none
 there:∀b o,h.get? b=some o->b∉ex->∃o',h'.get? b=some o'
 tups:∀b xs,H b=some (.tup xs)->H' b=some (.tup xs)
 frzs:∀b o u,H b=some (.frz o u)->H' b=some (.frz o u)
 tbls:∀b q,H b=some (.tbl q)->H' b=some (.tbl q)
section
variable {fs Rg ex SV:List Addr}{H H1 H2:Hp}{h h1 h2 h':Heap}{a x e:Addr}{o:HO}
theorem Un.any (u:Un fs ex H H1 h h1)(q:h.get? b=some ob)(n:H b=none)(hx:b∉ex):∃sl,h1.get? b=some { ob with slots:=sl }:=by
 by_cases hb:b∈fs
 ·exact u.slot b ob q n hb hx
 ·exact⟨ob.slots,u.keep b ob q n hb hx⟩
theorem Un.trans (a:Un fs ex H H1 h h1)(b:Un fs ex H1 H2 h1 h2):Un fs ex H H2 h h2 where
 keep:=λc ob q n hc hx=>b.keep c ob (a.keep c ob q n hc hx) (a.free c ob q n hx) hc hx
 slot:=λc ob q n hc hx=>by
  obtain⟨sl,e1⟩:=a.slot c ob q n hc hx;obtain⟨Lj,e2⟩:=b.slot c _ e1 (a.free c ob q n hx) hc hx;exact⟨Lj,e2⟩
 free:=λc ob q n hx=>by
  obtain⟨o',e1⟩:=a.there c ob q hx;exact b.free c o' e1 (a.free c ob q n hx) hx
 there:=λc ob q hx=>by
  obtain⟨o',e1⟩:=a.there c ob q hx;exact b.there c o' e1 hx
 tups:=λc xs q=>b.tups c xs (a.tups c xs q)
 frzs:=λc ob xs q=>b.frzs c ob xs (a.frzs c ob xs q)
 tbls:=λc ps q=>b.tbls c ps (a.tbls c ps q)
theorem Un.kept (k:∀b u,h.get? b=some u->h'.get? b=some u):Un fs ex H H h h' :=
 ⟨λb ob q _ _ _=>k b ob q,λb ob q _ _ _=>⟨ob.slots,k b ob q⟩,λ_ _ _ n _=>n,λb ob q _=>⟨ob,k b ob q⟩,λ_ _ q=>q,λ_ _ _ q=>q,λ_ _ q=>q⟩
theorem Un.refl:Un fs ex H H h h:=Un.kept λ_ _ q=>q
theorem Un.laid (k:∀b u,h.get? b=some u->h'.get? b=some u)(hp:h.objs.size<=a)(hn:H a=none):Un fs ex H (upd H a o) h h' where
 keep:=λb u q _ _ _=>k b u q
 slot:=λb u q _ _ _=>⟨u.slots,k b u q⟩
 free:=λb u q n _=>by rw[aA (vS (vQ (vX q) hp))];exact n
 there:=λb u q _=>⟨u,k b u q⟩
 tups:=λb xs q=>by rw[aA (aV q hn)];exact q
 frzs:=λb u xs q=>by rw[aA (aV q hn)];exact q
 tbls:=λb ps q=>by rw[aA (aV q hn)];exact q
theorem Un.write (mu:Mh (H x))(he:e=x∨H e=some (.own x))(k:∀b u,b≠e->h.get? b=some u->h'.get? b=some u)(IY:∃u,h'.get? e=some u):Un fs ex H (upd H x o) h h':=by
 have hx:∀b,H b=none->b≠x:=λb n z=>by subst z;rw[n]at mu;exact mu
 have hb:∀b,H b=none->b≠e:=λb n z=>by
  subst z;rcases he with r|r
  ·exact hx b n r
  ·rw[n]at r;cases r
 have hm:∀b u,H b=some u->¬Mh (some u)->b≠x:=λb u q nm z=>by subst z;rw[q]at mu;exact nm mu
 refine⟨λb u q n _ _=>k b u (hb b n) q,λb u q n _ _=>⟨u.slots,k b u (hb b n) q⟩,λb u q n _=>by rw[aA (hx b n)];exact n,λb u q _=>?_,
  λb xs q=>by rw[aA (hm b _ q λz=>z)];exact q,λb u xs q=>by rw[aA (hm b _ q λz=>z)];exact q,λb ps q=>by rw[aA (hm b _ q λz=>z)];exact q⟩
 by_cases Cv:b=e
 ·subst Cv;exact IY
 ·exact⟨u,k b u Cv q⟩
end
noncomputable def Mi (h:Heap)(H:Hp):List Addr:=(List.range h.objs.size).filter λa=>(H a).isSome
def rm (h:Heap)(H:Hp):Heap:=PySem.W.hideAll h (Mi h H)
theorem yh (h:Heap)(H:Hp):(rm h H).objs.size=h.objs.size:=PySem.W.hideAll_size _ _
theorem m3 (e:h.get? b=some o)(n:H b=none):(rm h H).get? b=some o :=
 PySem.W.hideAll_get _ e λhm=>by
  have q:(H b).isSome=true:=(List.mem_filter.mp hm).2;rw[n]at q;simp at q
theorem C1 (e:(rm h H).get? b=some o):h.get? b=some o/\H b=none:=by
 have e':h.get? b=some o:=PySem.W.of_hideAll (Mi h H) e;refine⟨e',?_⟩;cases q:H b with
 |none=>rfl
 |some x=>
  have hm:b∈Mi h H:=List.mem_filter.mpr ⟨List.mem_range.mpr (vX e'),by simp[q]⟩;have z:(rm h H).get? b=none:=PySem.W.hideAll_none (Mi h H) hm;rw[z]at e;cases e
noncomputable def C2 (g h:Heap)(L:Addr):List (Addr×Obj):=(List.range h.objs.size).filterMap λa=>if a=L∨(g.get? a).isSome=true then none else (h.get? a).map λo=>(a,o)
def rest (g h:Heap)(L d:Addr):List (Addr×Obj):=(C2 g h L).filter λp=>decide (p.1≠d)
structure Mod (K:Frag)(mg:Str->Option Value)(base:Heap):Prop where
 kin:K.In base
 glob:base.Ns mainGlobals mg
 blt:∃mb,base.Ns builtinsNs mb/\∀x:Str,x ≠ "__name__"->mb x=bootBuiltins x
 nolimit:base.NoLimit
 bmain:∃bm ob,mg "__builtins__" = some (.ref bm)/\bm≠builtinsNs/\base.get? bm=some ob/\ob.cls=.type "module"/\ob.dict=some builtinsNs/\ob.data=.plain
structure Cx where
 prog:Program
 w:World
 K:Frag
 mg:Str->Option Value
 base:Heap
 A:Around
 N:List Str
 s₀:Shared
 H₀:Hp
 env:Env
 outer:List Env
 stack:List Env
 ex:List Addr
 fn:Str->Bool
 calm:Bool
 pn:List (Addr×Obj)
 xe:Value->Shared->Prop
noncomputable def kZ (l:List Env):List Addr:=l.filterMap (·.frame)
abbrev Cx.fs (X:Cx):List Addr:=kZ X.outer
def Cm (sc:Scope)(x:Str):Prop:=sc.names.lookup x=some .local∨sc.names.lookup x=some .cell∨sc.names.lookup x=some .free
def EK (sc:Scope)(x:Str):Prop:=sc.names.lookup x=some .local∨sc.names.lookup x=some .cell
def ML (env:Env)(h:Heap)(m:Str->Option Value)(x:Str)(u:Value):Prop :=
 (env.kindOf x=some .local/\m x=some u)∨((env.kindOf x=some .cell∨env.kindOf x=some .free)/\∃c,env.cells.lookup x=some c/\h.IsCell c (some u))
abbrev wq {α:Type}(X:Cx):Sem α->(α->Shared->Prop)->(Value->Shared->Prop)->Shared->Prop:=wpAny (model X.prog X.w) X.A
structure Cx.Ok (X:Cx):Prop where
 mod:Mod X.K X.mg X.base
 kind:X.env.scope.kind=.function
 glob:X.env.globals=mainGlobals
 blt:X.env.builtins=builtinsNs
 above:X.s₀.heap.objs.size<=X.env.locals
 inj:∀x y c,X.env.cells.lookup x=some c->X.env.cells.lookup y=some c->x=y
 has:∀x,(X.env.kindOf x=some .cell∨X.env.kindOf x=some .free)->∃c,X.env.cells.lookup x=some c
 cab:∀x c,X.fn x=true->X.env.cells.lookup x=some c->X.s₀.heap.objs.size<=c
 hd:X.calm=true->X.A.handled=none
 frames:X.A.frames=some X.stack
 stk:X.stack=X.outer∨(X.stack=X.env::X.outer/\X.env.frame=some X.env.locals)
 exf:∀b∈X.ex,b≠X.env.locals/\∀x c,X.env.cells.lookup x=some c->c≠b
 bs:∀b o,X.base.get? b=some o->X.s₀.heap.get? b=some o/\X.H₀ b=none
 bsz:X.base.objs.size<=X.s₀.heap.objs.size
 noex:∀b o,X.base.get? b=some o->b∉X.ex
 exfs:∀b∈X.ex,b∉X.fs
 funs:X.s₀.heap.FunFrames X.base X.outer
 frf:∀b∈X.fs,X.H₀ b=none
structure Inv (X:Cx)(ac:List (Addr×Obj))(σ:List (Option V))(H:Hp)(s:Shared):Prop where
 ok:X.Ok
 os:s.os=X.s₀.os
 bare:AllBare s.gens
 base:Un X.fs X.ex X.H₀ H X.s₀.heap s.heap
 loc:∃m,s.heap.Ns X.env.locals m/\∀(i:Nat)(x:Str)(v:V),X.N[i]? = some x->σ[i]? = some (some v)->Cm X.env.scope x->∃u,aL v u/\ML X.env s.heap m x u
 cell:∀x c,X.env.cells.lookup x=some c->∃v,s.heap.IsCell c v
 free:H X.env.locals=none
 freeC:∀x c,X.env.cells.lookup x=some c->H c=none
 pin:∀p∈X.pn++ac,s.heap.get? p.1=some p.2/\H p.1=none/\p.1≠X.env.locals/\p.1∉X.fs/\∀v,p.2.data≠.cell v
 hok:lC X.prog X.w H s.heap
 len:σ.length=X.N.length
section
variable {X:Cx}{ac:List (Addr×Obj)}{σ:List (Option V)}{H H':Hp}{s:Shared}{h':Heap}
theorem Cx.Ok.nofr (ok:X.Ok)(e:X.base.get? b=some o):b∉X.fs:=λhb=>by
 have:=(ok.funs.mem hb).1;rw[e]at this;cases this
theorem Inv.bs (I:Inv X ac σ H s):∀b o,X.base.get? b=some o->s.heap.get? b=some o/\H b=none:=λb o e=>
 ⟨I.base.keep b o (I.ok.bs b o e).1 (I.ok.bs b o e).2 (I.ok.nofr e) (I.ok.noex b o e),I.base.free b o (I.ok.bs b o e).1 (I.ok.bs b o e).2 (I.ok.noex b o e)⟩
theorem Inv.bk (I:Inv X ac σ H s):∀b o,X.base.get? b=some o->s.heap.get? b=some o:=λb o e=>(I.bs b o e).1
theorem Inv.mod (I:Inv X ac σ H s):Mod X.K X.mg X.base:=I.ok.mod
theorem Inv.kIn (I:Inv X ac σ H s):X.K.In s.heap:=I.ok.mod.kin.keeps I.bk
theorem Inv.fr (I:Inv X ac σ H s):∃m,Fr X.base X.env.locals s.heap m :=
 let ⟨m,hn,_⟩:=I.loc
 ⟨m,hn,I.bk,vR I.ok.bsz I.ok.above⟩
theorem Inv.lt (I:Inv X ac σ H s):X.env.locals<s.heap.objs.size:=let ⟨_,hn,_⟩:=I.loc;hn.lt
theorem Inv.sz (I:Inv X ac σ H s):X.s₀.heap.objs.size<=s.heap.objs.size:=vR I.ok.above (Nat.le_of_lt I.lt)
theorem Inv.nofs (I:Inv X ac σ H s)(h:s.heap.objs.size<=a):a∉X.fs:=λhb=>by
 obtain⟨_,o,ho,_⟩:=I.ok.funs.mem hb;exact absurd (vQ (vX ho) (vR I.sz h)) (Nat.lt_irrefl _)
theorem Inv.cne (I:Inv X ac σ H s):∀x c,X.env.cells.lookup x=some c->c≠X.env.locals:=λx c e z=>by
 obtain⟨v,o,ho,hd⟩:=I.cell x c e;obtain⟨m,⟨o',es,ep,rj,Ms,_⟩,_⟩:=I.loc;rw[z,rj]at ho;cases ho;rw[Ms]at hd;cases hd
theorem Inv.funs (I:Inv X ac σ H s):s.heap.FunFrames X.base X.outer:=by
 have all:∀(l:List Env),(∀b∈kZ l,b∈X.fs)->X.s₀.heap.FunFrames X.base l->s.heap.FunFrames X.base l:=by
  intro l;induction l with
  |nil=>intro _ _;trivial
  |cons env r ih=>
   intro hs hl;obtain⟨hk,⟨L,o,hf,hn,ho,hd⟩,hr⟩:=hl;have hL:L∈X.fs:=hs L (by unfold kZ;rw[List.filterMap_cons,hf];exact mX);obtain⟨sl,e⟩:=I.base.slot L o ho (I.ok.frf L hL) hL λz=>I.ok.exfs L z hL;exact⟨hk,⟨L,_,hf,hn,e,hd⟩,ih (λb hb=>hs b (by unfold kZ;rw[List.filterMap_cons,hf];exact mZ _ hb)) hr⟩
 exact all X.outer (λ_ hb=>hb) I.ok.funs
theorem Inv.stack (I:Inv X ac σ H s):s.heap.FunFrames X.base X.stack:=by
 rcases I.ok.stk with e|⟨e,hf⟩
 ·rw[e];exact I.funs
 ·rw[e];obtain⟨m,hn,_⟩:=I.loc;refine .cons (by rw[I.ok.kind];decide) hf hn ?_ I.funs;exact Heap.get?_none_of_le (vR I.ok.bsz I.ok.above)
theorem Inv.stkSub (I:Inv X ac σ H s):∀b∈kZ X.stack,b∈X.env.locals::X.fs:=λb hb=>by
 rcases I.ok.stk with e|⟨e,hf⟩
 ·rw[e]at hb;exact mZ _ hb
 ·rw[e]at hb;unfold kZ at hb;rw[List.filterMap_cons,hf]at hb;exact hb
theorem Inv.stkFree (I:Inv X ac σ H s):∀b∈kZ X.stack,H b=none:=λb hb=>by
 rcases vP (I.stkSub b hb)with e|hb
 ·rw[e];exact I.free
 ·obtain⟨_,o,ho,_⟩:=I.ok.funs.mem hb;exact I.base.free b o ho (I.ok.frf b hb) λz=>I.ok.exfs b z hb
theorem Inv.step {g':Array GenState}{t':Nat}{d':Drawn}{ch:List Addr}(I:Inv X ac σ H s)
  (xW:∀b∈ch,(b∈X.ex∨X.s₀.heap.objs.size<=b)/\b≠X.env.locals/\(∀x c,X.env.cells.lookup x=some c->c≠b)/\∀p∈X.pn++ac,p.1≠b)
  (keep:∀b o,b≠X.env.locals->b∉X.fs->b∉ch->s.heap.get? b=some o->H b=none->h'.get? b=some o)
  (slot:∀b o,b≠X.env.locals->b∈X.fs->b∉ch->s.heap.get? b=some o->H b=none->∃sl,h'.get? b=some { o with slots:=sl }) (free:∀b o,b∉ch->s.heap.get? b=some o->H b=none->H' b=none)
  (there:∀b o,b∉ch->s.heap.get? b=some o->∃o',h'.get? b=some o')
  (tups:∀b xs,H b=some (.tup xs)->H' b=some (.tup xs)) (frzs:∀b o u,H b=some (.frz o u)->H' b=some (.frz o u)) (tbls:∀b q,H b=some (.tbl q)->H' b=some (.tbl q))
  (ns:∀m,s.heap.Ns X.env.locals m->h'.Ns X.env.locals m) (hok:lC X.prog X.w H' h') (hg:AllBare g'):
  Inv X ac σ H' { s with heap:=h',gens:=g',drawn:=d',toks:=t' }:=by
 have IZ:∀b o,X.s₀.heap.get? b=some o->b≠X.env.locals:=λb o e=>vS (vQ (vX e) I.ok.above);have Ja:∀b o,X.s₀.heap.get? b=some o->b∉X.ex->b∉ch:=λb o e hx hb=>by
  rcases (xW b hb).1 with z|z
  ·exact hx z
  ·exact absurd (vQ (vX e) z) (Nat.lt_irrefl _)
 have F6:∀x c,X.env.cells.lookup x=some c->∀v,s.heap.IsCell c v->h'.IsCell c v:=λx c e v ⟨o,ho,hd⟩=>by
  have Lk:c∉ch:=λz=>(xW c z).2.2.1 x c e rfl;by_cases hc:c∈X.fs
  ·obtain⟨sl,q⟩:=slot c o (I.cne x c e) hc Lk ho (I.freeC x c e);exact⟨_,q,hd⟩
  ·exact⟨o,keep c o (I.cne x c e) hc Lk ho (I.freeC x c e),hd⟩
 refine⟨I.ok,I.os,hg,⟨λb o e n hb hx=>?_,λb o e n hb hx=>?_,λb o e n hx=>?_,λb o e hx=>?_,λb xs e=>tups b xs (I.base.tups b xs e),λb o xs e=>frzs b o xs (I.base.frzs b o xs e),λb ps e=>?_⟩,?_,λx c e=>?_,?_,λx c e=>?_,λp hp=>?_,hok,I.len⟩
 ·exact keep b o (IZ b o e) hb (Ja b o e hx) (I.base.keep b o e n hb hx) (I.base.free b o e n hx)
 ·obtain⟨sl,e1⟩:=I.base.slot b o e n hb hx;obtain⟨Lj,e2⟩:=slot b _ (IZ b o e) hb (Ja b o e hx) e1 (I.base.free b o e n hx);exact⟨Lj,e2⟩
 ·obtain⟨o',e1⟩:=I.base.there b o e hx;exact free b o' (Ja b o e hx) e1 (I.base.free b o e n hx)
 ·obtain⟨o',e1⟩:=I.base.there b o e hx;exact there b o' (Ja b o e hx) e1
 ·exact tbls b _ (I.base.tbls b ps e)
 ·obtain⟨m,hn,hl⟩:=I.loc;refine⟨m,ns m hn,λi x v e1 e2 e3=>?_⟩;obtain⟨u,r,l⟩:=hl i x v e1 e2 e3;refine⟨u,r,?_⟩;rcases l with l|⟨k,c,e,z⟩
  ·exact .inl l
  ·exact .inr ⟨k,c,e,F6 x c e _ z⟩
 ·obtain⟨v,z⟩:=I.cell x c e;exact⟨v,F6 x c e v z⟩
 ·obtain⟨m,⟨o,_,_,ho,_⟩,_⟩:=I.loc;exact free _ o (λz=>(xW _ z).2.1 rfl) ho I.free
 ·obtain⟨v,o,ho,hd⟩:=I.cell x c e;exact free c o (λz=>(xW c z).2.2.1 x c e rfl) ho (I.freeC x c e)
 ·obtain⟨e,n,ne,nf,d⟩:=I.pin p hp;have Lk:p.1∉ch:=λz=>(xW p.1 z).2.2.2 p hp rfl;exact⟨keep p.1 p.2 ne nf Lk e n,free p.1 p.2 Lk e n,ne,nf,d⟩
theorem Inv.un {t':Nat}(I:Inv X ac σ H s)(u:Un X.fs [] H H' s.heap h')(hok:lC X.prog X.w H' h'):Inv X ac σ H' { s with heap:=h',toks:=t' }:=by
 obtain⟨m,⟨o,es,ep,ho,r⟩,_⟩:=id I.loc;obtain⟨sl,hL⟩:=u.any ho I.free (by simp);exact I.step (g':=s.gens) (d':=s.drawn) (ch:=[]) (λ_ z=>nomatch z) (λb o _ hb _ e n=>u.keep b o e n hb (by simp)) (λb o _ hb _ e n=>u.slot b o e n hb (by simp)) (λb o _ e n=>u.free b o e n (by simp)) (λb o _ e=>u.there b o e (by simp)) u.tups u.frzs u.tbls (λm' hm=>by
  obtain⟨o',BS,Mt,rj,r'⟩:=hm;rw[ho]at rj;cases rj;exact⟨_,BS,Mt,hL,r'⟩) hok I.bare
theorem Inv.call {g':Array GenState}{t':Nat}{d':Drawn}{ch:List Addr}(I:Inv X ac σ H s)(u:Un (kZ X.stack) ch H H' s.heap h')(hok:lC X.prog X.w H' h')(hg:AllBare g')
  (xW:∀b∈ch,(b∈X.ex∨X.s₀.heap.objs.size<=b)/\b≠X.env.locals/\(∀x c,X.env.cells.lookup x=some c->c≠b)/\∀p∈X.pn++ac,p.1≠b):
  Inv X ac σ H' { s with heap:=h',gens:=g',drawn:=d',toks:=t' }:=by
 obtain⟨m,⟨o,es,ep,ho,r⟩,_⟩:=id I.loc;obtain⟨sl,hL⟩:=u.any ho I.free λz=>(xW _ z).2.1 rfl;exact I.step (ch:=ch) xW (λb o hL hb hc e n=>u.keep b o e n (λz=>(vP (I.stkSub b z)).elim hL hb) hc) (λb o _ _ hc e n=>u.any e n hc) (λb o hc e n=>u.free b o e n hc) (λb o hc e=>u.there b o e hc) u.tups u.frzs u.tbls (λm' hm=>by
  obtain⟨o',BS,Mt,rj,r'⟩:=hm;rw[ho]at rj;cases rj;exact⟨_,BS,Mt,hL,r'⟩) hok hg
theorem Inv.turned {t':Nat}{it:Addr}(I:Inv X ac σ H s)(k:∀b o,b≠it->s.heap.get? b=some o->h'.get? b=some o)(hn:H it=none)(hL:it≠X.env.locals)
  (h1:it∈X.ex∨X.s₀.heap.objs.size<=it) (h2:∀x c,X.env.cells.lookup x=some c->c≠it) (h3:∀p∈X.pn++ac,p.1≠it):Inv X ac σ H { s with heap:=h',toks:=t' }:=by
 have F7:∀b u,H b=some u->b≠it:=λb u e z=>by rw[z,hn]at e;cases e
 refine I.step (g':=s.gens) (d':=s.drawn) (ch:=[it]) (λb hb=>?_) (λb o _ _ hc e _=>k b o (λz=>hc (by simp[z])) e) (λb o _ _ hc e _=>⟨o.slots,k b o (λz=>hc (by simp[z])) e⟩) (λ_ _ _ _ n=>n)
  (λb o hc e=>⟨o,k b o (λz=>hc (by simp[z])) e⟩) (λ_ _ e=>e) (λ_ _ _ e=>e) (λ_ _ e=>e) (λm hm=>?_) (λb u e=>?_) I.bare
 ·have e:b=it:=by simpa using hb
  subst e;exact⟨h1,hL,h2,h3⟩
 ·obtain⟨o,es,ep,ho,r⟩:=hm;exact⟨o,es,ep,k _ o (Ne.symm hL) ho,r⟩
 ·refine(I.hok b u e).stay (λc v hc q=>k c v ?_ q) (λ_ q=>q) (λ_ _ q=>q) λ_ _ _ q=>q;rcases hc with z|z
  ·rw[z];exact F7 b u e
  ·exact F7 c _ z
theorem Inv.tok (I:Inv X ac σ H s)(t:Nat):Inv X ac σ H { s with toks:=t }:=I.un (h':=s.heap) (t':=t) Un.refl I.hok
theorem Inv.kept (I:Inv X ac σ H s)(k:∀b u,s.heap.get? b=some u->h'.get? b=some u):Inv X ac σ H { s with heap:=h',toks:=t' }:=I.un (Un.kept k) (I.hok.kept k)
theorem Inv.laid (I:Inv X ac σ H s)(k:∀b u,s.heap.get? b=some u->h'.get? b=some u)(hp:s.heap.objs.size<=a)(new:bF X.prog X.w (upd H a o) h' a o):
  Inv X ac σ (upd H a o) { s with heap:=h',toks:=t' }:=I.un (Un.laid k hp (I.hok.fresh hp)) (I.hok.laid k hp new)
theorem Inv.write (I:Inv X ac σ H s)(mu:Mh (H x))(he:e=x∨H e=some (.own x))(k:∀b u,b≠e->s.heap.get? b=some u->h'.get? b=some u)(IY:∃u,h'.get? e=some u)
  (new:bF X.prog X.w (upd H x o) h' x o):Inv X ac σ (upd H x o) { s with heap:=h',toks:=t' }:=I.un (Un.write mu he k IY) (I.hok.write mu he k IY new)
theorem Inv.pins_of (I:Inv X ac σ H s)(h:∀p∈pins',s.heap.get? p.1=some p.2/\H p.1=none/\p.1≠X.env.locals/\p.1∉X.fs/\∀v,p.2.data≠.cell v):Inv X pins' σ H s :=
 ⟨I.ok,I.os,I.bare,I.base,I.loc,I.cell,I.free,I.freeC,λp hp=>(List.mem_append.mp hp).elim (λz=>I.pin p (List.mem_append_left _ z)) (h p),I.hok,I.len⟩
theorem m4 {N:List Str}(hN:N.Nodup){i j:Nat}{x:Str}(a:N[i]? = some x)(b:N[j]? = some x):i=j:=by
 obtain⟨h1,e1⟩:=vV a;obtain⟨h2,e2⟩:=vV b;exact(List.getElem_inj hN).mp (e1.trans e2.symm)
theorem oH {M:Model}{A:Around}{E:Value->Shared->Prop}{i:Nat}{x:Str}{v:V}{u:Value}{Q:Unit->Shared->Prop}(I:Inv X ac σ H s)(hN:X.N.Nodup)(hi:X.N[i]? = some x)(hx:EK X.env.scope x)(r:aL v u)
  (h:∀s',Inv X ac (σ.set i (some v)) H s'->(∃a,Heap.SameBut a s.heap s'.heap/\(a=X.env.locals∨X.env.cells.lookup x=some a))->Q () s') (hf:X.fn x=true∨X.env.scope.names.lookup x=some .local:=by first|exact .inl rfl|exact .inr rfl|assumption):wpAny M A (storeName X.env x u) Q E s:=by
 obtain⟨m,hn,hl⟩:=id I.loc;have NS:(X.env.scope.kind == .class || (X.env.scope.kind == .module && X.env.locals != X.env.globals))=false:=by rw[I.ok.kind];rfl
 have zq:i<σ.length:=by rw[I.len];exact(vV hi).1
 have cne:=I.cne;have xX:∀ {a:Addr}{h':Heap},(∃o,s.heap.get? a=some o/\H a=none)->Heap.SameBut a s.heap h'->lC X.prog X.w H h':=λ{a h'} ha hs b ob e=>by
  obtain⟨_,_,F8⟩:=ha;refine(I.hok b ob e).stay (λc w' hc q=>(hs.2 c ?_).trans q) (λ_ q=>q) (λ_ _ q=>q) λ_ _ _ q=>q;rintro rfl;rcases hc with rfl|hc
  ·rw[F8]at e;cases e
  ·rw[F8]at hc;cases hc
 rcases hx with hk|hk
 ·refine wpAny_storeName_local hk hn (λh' Jb hs=>?_) NS;obtain⟨oL,_,_,Ll,_⟩:=id hn;refine h _ ⟨I.ok,I.os,I.bare,⟨λb o e n hb hx=>?_,λb o e n hb hx=>?_,I.base.free,λb o e hx=>?_,I.base.tups,I.base.frzs,I.base.tbls⟩,⟨_,Jb,λj y v' e1 e2 e3=>?_⟩,λy c e=>?_,I.free,I.freeC,λp hp=>?_,xX ⟨oL,Ll,I.free⟩ hs,by simpa using I.len⟩ ⟨_,hs,.inl rfl⟩
  ·exact(hs.2 b (vS (vQ (vX e) I.ok.above))).trans (I.base.keep b o e n hb hx)
  ·obtain⟨sl,e1⟩:=I.base.slot b o e n hb hx;exact⟨sl,(hs.2 b (vS (vQ (vX e) I.ok.above))).trans e1⟩
  ·obtain⟨o',e1⟩:=I.base.there b o e hx;exact⟨o',(hs.2 b (vS (vQ (vX e) I.ok.above))).trans e1⟩
  ·by_cases hj:j=i
   ·subst hj;rw[hi]at e1;cases e1;rw[List.getElem?_set_self zq]at e2;cases e2
    exact⟨u,r,.inl ⟨hk,by simp⟩⟩
   ·rw[vC (Ne.symm hj)]at e2;obtain⟨u',r',q⟩:=hl j y v' e1 e2 e3;refine⟨u',r',?_⟩;rcases q with⟨k,e⟩|⟨k,c,e,z⟩
    ·refine .inl ⟨k,?_⟩;have:y≠x:=λe=>hj (m4 hN e1 (e ▸ hi));simp[this,e]
    ·exact .inr ⟨k,c,e,z.sameBut hs (cne y c e)⟩
  ·obtain⟨w',z⟩:=I.cell y c e;exact⟨w',z.sameBut hs (cne y c e)⟩
  ·obtain⟨e,n,ne,nf,d⟩:=I.pin p hp;exact⟨(hs.2 p.1 ne).trans e,n,ne,nf,d⟩
 ·have E4:X.fn x=true:=by
   rcases hf with z|z
   ·exact z
   ·rw[z]at hk;cases hk
  obtain⟨c,hc⟩:=I.ok.has x (.inl hk);obtain⟨w',z⟩:=I.cell x c hc;refine wpAny_storeName_cell I.ok.kind hk hc z (λh' F9 hs=>?_);obtain⟨oc,P2,NT⟩:=id z;refine h { s with heap:=h' } ⟨I.ok,I.os,I.bare,⟨λb o e n hb hx=>?_,λb o e n hb hx=>?_,I.base.free,λb o e hx=>?_,I.base.tups,I.base.frzs,I.base.tbls⟩,⟨m,hn.sameBut hs (Ne.symm (cne x c hc)),λj y v' e1 e2 e3=>?_⟩,λy c' e=>?_,I.free,I.freeC,λp hp=>?_,xX ⟨oc,P2,I.freeC x c hc⟩ hs,by simpa using I.len⟩ ⟨c,hs,.inr hc⟩
  ·exact(hs.2 b (vS (vQ (vX e) (I.ok.cab x c E4 hc)))).trans (I.base.keep b o e n hb hx)
  ·obtain⟨sl,e1⟩:=I.base.slot b o e n hb hx;exact⟨sl,(hs.2 b (vS (vQ (vX e) (I.ok.cab x c E4 hc)))).trans e1⟩
  ·obtain⟨o',e1⟩:=I.base.there b o e hx;exact⟨o',(hs.2 b (vS (vQ (vX e) (I.ok.cab x c E4 hc)))).trans e1⟩
  ·by_cases hj:j=i
   ·subst hj;rw[hi]at e1;cases e1;rw[List.getElem?_set_self zq]at e2;cases e2
    exact⟨u,r,.inr ⟨.inl hk,c,hc,F9⟩⟩
   ·rw[vC (Ne.symm hj)]at e2;obtain⟨u',r',q⟩:=hl j y v' e1 e2 e3;refine⟨u',r',?_⟩;rcases q with q|⟨k,c',e,z'⟩
    ·exact .inl q
    ·refine .inr ⟨k,c',e,z'.sameBut hs ?_⟩;rintro rfl;exact hj (m4 hN e1 (I.ok.inj _ _ _ e hc ▸ hi))
  ·by_cases hcc:c'=c
   ·subst hcc;exact⟨_,F9⟩
   ·obtain⟨w2,z2⟩:=I.cell y c' e;exact⟨w2,z2.sameBut hs hcc⟩
  ·obtain⟨e,n,ne,nf,d⟩:=I.pin p hp;refine⟨(hs.2 p.1 ?_).trans e,n,ne,nf,d⟩;intro q;rw[q,P2]at e;have q':oc=p.2:=vK e;exact d w' (by rw[←q'];exact NT)
theorem ka {M:Model}{A:Around}{E:Value->Shared->Prop}{i:Nat}{x:Str}{v:V}{u:Value}{Q:Unit->Shared->Prop}(I:Inv X ac σ H s)(hN:X.N.Nodup)(hi:X.N[i]? = some x)(hx:EK X.env.scope x)(r:aL v u)
  (h:∀s',Inv X ac (σ.set i (some v)) H s'->Q () s') (hf:X.fn x=true∨X.env.scope.names.lookup x=some .local:=by first|exact .inl rfl|exact .inr rfl|assumption):wpAny M A (storeName X.env x u) Q E s :=
 oH I hN hi hx r (λs' I' _=>h s' I') hf
theorem Inv.call' (I:Inv X ac σ H s)(ho:s'.os=s.os)(u:Un (kZ X.stack) ch H H' s.heap s'.heap)(hok:lC X.prog X.w H' s'.heap)(hg:AllBare s'.gens)
  (xW:∀b∈ch,(b∈X.ex∨X.s₀.heap.objs.size<=b)/\b≠X.env.locals/\(∀x c,X.env.cells.lookup x=some c->c≠b)/\∀p∈X.pn++ac,p.1≠b):Inv X ac σ H' s':=by
 obtain⟨h',g',d',t',o'⟩:=s';have e:o'=s.os:=ho;subst e;exact I.call (g':=g') (t':=t') (d':=d') u hok hg xW
end
abbrev XK:=Value->Option Addr->Hp->Prop
abbrev St:=List (Option V)
abbrev VK:=V->Hp->Prop
abbrev TE:=St->Hp->VK->Prop
abbrev TT:=St->Hp->(Bool->Hp->Prop)->Prop
abbrev TA:=St->Hp->(List V->Hp->Prop)->Prop
structure Ends where
 nx:St->Hp->Prop
 rt:VK
 bk:St->Hp->Prop:=λ_ _=>False
 ct:St->Hp->Prop:=λ_ _=>False
abbrev TS:=Ends->St->Hp->Prop
def EP (X:Cx)(ac:List (Addr×Obj))(σ:St)(Q:VK)(u:Value)(s':Shared):Prop:=∃v H',Inv X ac σ H' s'/\aL v u/\Q v H'
def TP (X:Cx)(ac:List (Addr×Obj))(σ:St)(Q:Bool->Hp->Prop)(b:Bool)(s':Shared):Prop:=∃H',Inv X ac σ H' s'/\Q b H'
def AP (X:Cx)(ac:List (Addr×Obj))(σ:St)(Q:List V->Hp->Prop)(us:List Value)(s':Shared):Prop:=∃vs H',Inv X ac σ H' s'/\aS vs us/\Q vs H'
def SP (X:Cx)(ac:List (Addr×Obj))(D:Ends)(f:Flow)(s':Shared):Prop :=
 match f with
 |.next=>∃σ' H',Inv X ac σ' H' s'/\D.nx σ' H'
 |.brk=>∃σ' H',Inv X ac σ' H' s'/\D.bk σ' H'
 |.cont=>∃σ' H',Inv X ac σ' H' s'/\D.ct σ' H'
 |.ret u=>∃v σ' H',Inv X ac σ' H' s'/\aL v u/\D.rt v H'
def PE (X:Cx)(e:Expr)(t:TE):Prop :=
 ∀(ac:List (Addr×Obj))(s:Shared)(σ:St)(H:Hp)(Q:VK),Inv X ac σ H s->t σ H Q->wq X (eval e X.env) (EP X ac σ Q) X.xe s
def PT (X:Cx)(e:Expr)(t:TT):Prop :=
 ∀(ac:List (Addr×Obj))(s:Shared)(σ:St)(H:Hp)(Q:Bool->Hp->Prop),Inv X ac σ H s->t σ H Q->wq X (isTrue e X.env (eval e X.env)) (TP X ac σ Q) X.xe s
def PW (X:Cx)(e:Expr)(t:TT):Prop :=
 ∀(oh:Sem Value)(ac:List (Addr×Obj))(s:Shared)(σ:St)(H:Hp)(Q:Bool->Hp->Prop),Inv X ac σ H s->t σ H Q->wq X (isTrue e X.env oh) (TP X ac σ Q) X.xe s
theorem PW.pt (h:PW X e t):PT X e t:=h _
def PA (X:Cx)(es:List Expr)(t:TA):Prop :=
 ∀(pos:Pos)(ac:List (Addr×Obj))(s:Shared)(σ:St)(H:Hp)(Q:List V->Hp->Prop),Inv X ac σ H s->t σ H Q->wq X (spliced (backTo pos (starEach es X.env))) (AP X ac σ Q) X.xe s
def PS (X:Cx)(st:Stmt)(t:TS):Prop :=
 ∀(ac:List (Addr×Obj))(s:Shared)(σ:St)(H:Hp)(D:Ends),Inv X ac σ H s->t D σ H->wq X (exec st X.env) (SP X ac D) X.xe s
def lD (X:Cx)(st:List Stmt)(t:TS):Prop :=
 ∀(ac:List (Addr×Obj))(s:Shared)(σ:St)(H:Hp)(D:Ends),Inv X ac σ H s->t D σ H->wq X (execs st X.env) (SP X ac D) X.xe s
theorem cb {α:Type}{t:Sem α}{Q Q':α->Shared->Prop}{M:Model}{A:Around}{E:Value->Shared->Prop}{s:Shared}(h:wpAny M A t Q E s)(hQ:∀a s,Q a s->Q' a s):wpAny M A t Q' E s:=wpAny_mono h hQ λ_ _ x=>x
section
variable {X:Cx}
theorem SO {a b:Expr}{ta tb:TE}(ha:PE X a ta)(hb:PE X b tb){ac:List (Addr×Obj)}{s:Shared}{σ:St}{H:Hp}{R:V->V->Hp->Prop}(I:Inv X ac σ H s)(h:ta σ H λx H1=>tb σ H1 λy H2=>R x y H2)
  {α:Type}{Q:α->Shared->Prop}{f:Value->Value->Sem α}
  (hf:∀v u s2 x y H2,Inv X ac σ H2 s2->aL x v->aL y u->R x y H2->wq X (f v u) Q X.xe s2):
  wq X (eval a X.env) (λv s₁=>wq X (eval b X.env) (λu s₂=>wq X (f v u) Q X.xe s₂) X.xe s₁) X.xe s:=by
 refine cb (ha ac s σ H _ I h) λv s1 ⟨x,H1,I1,r1,q1⟩=>?_;refine cb (hb ac s1 σ H1 _ I1 q1) λu s2 ⟨y,H2,I2,r2,q2⟩=>?_;exact hf v u s2 x y H2 I2 r1 r2 q2
def rq (i:Nat):TE:=λσ H Q=>∃v,σ[i]? = some (some v)/\Q v H
def tC (v:V):TE:=λ_ H Q=>Q v H
theorem dR (hN:X.N[i]? = some x)(hv:Cm X.env.scope x)(hd:(x == ("__debug__" : Str))=false:=by decide)(gH:(x == ("__classdict__" : Str))=false:=by decide):PE X (.Name x pos) (rq i):=by
 intro ac s σ H Q I h;obtain⟨v,e,h⟩:=h;obtain⟨m,hn,hl⟩:=I.loc;obtain⟨u,r,l⟩:=hl i x v hN e hv;have gY:EP X ac σ Q u s:=⟨v,H,I,r,h⟩;rcases l with⟨hk,hm⟩|⟨hk,c,hc,FC⟩
 ·exact wpAny_Name (wpAny_loadName_local I.ok.kind hk hn hm gY) hd
 ·rcases hk with hk|hk
  ·exact wpAny_Name (wpAny_loadName_cell I.ok.kind hk hc FC gY) hd
  ·exact wpAny_Name (wpAny_loadName_free I.ok.kind hk hc FC gY gH) hd
theorem Gc {i j pos}:PE X (.Constant (.int i) j pos) (tC (.int i)):=λ_ _ _ H _ I h=>wpAny_Constant_int ⟨.int i,H,I.tok _,⟨_,rfl⟩,h⟩
theorem Jm {b j pos}:PE X (.Constant (.bool b) j pos) (tC (.bl b)):=λ_ _ _ H _ I h=>Constant_bool ⟨.bl b,H,I,rfl,h⟩
theorem Gd {j pos}:PE X (.Constant .none j pos) (tC .non):=λ_ _ _ H _ I h=>Constant_none ⟨.non,H,I,rfl,h⟩
theorem Ge {x j pos}:PE X (.Constant (.str x) j pos) (tC (.str x)):=λ_ _ _ H _ I h=>Calls.Constant_str ⟨.str x,H,I.tok _,⟨_,rfl⟩,h⟩
def Gl (X:Cx)(x:Str):Prop:=X.env.kindOf x=some .globalImplicit
theorem hJ {E:Value->Shared->Prop}{ac:List (Addr×Obj)}{s:Shared}{σ:St}{H:Hp}{x:Str}{u:Value}{pos:Pos}{Q:Value->Shared->Prop}(I:Inv X ac σ H s)(hg:Gl X x)(hm:X.mg x=some u)(h:Q u s)
  (hd:(x == ("__debug__" : Str))=false:=by decide):wq X (eval (.Name x pos) X.env) Q E s :=
 Calls.Name_function_global I.ok.kind hg (Calls.loadGlobal_global (by rw[I.ok.glob];exact I.mod.glob.keeps I.bk) hm h) hd
theorem hU {E:Value->Shared->Prop}{ac:List (Addr×Obj)}{s:Shared}{σ:St}{H:Hp}{x:Str}{u:Value}{pos:Pos}{Q:Value->Shared->Prop}(I:Inv X ac σ H s)(hg:Gl X x)(hm:X.mg x=none)(hv:bootBuiltins x=some u)(h:Q u s)
  (hn:x ≠ "__name__":=by decide) (hd:(x == ("__debug__" : Str))=false:=by decide):wq X (eval (.Name x pos) X.env) Q E s:=by
 obtain⟨mb,h1,h2⟩:=I.mod.blt;exact Calls.Name_function_global I.ok.kind hg (Calls.loadGlobal_builtin (by rw[I.ok.glob];exact I.mod.glob.keeps I.bk) hm (by rw[I.ok.blt];exact h1.keeps I.bk) ((h2 x hn).trans hv) h) hd
theorem gt (hg:Gl X x)(hm:X.mg x=some u)(r:aL v u)(hd:(x == ("__debug__" : Str))=false:=by decide):PE X (.Name x pos) (tC v) :=
 λ_ _ _ H _ I h=>hJ I hg hm ⟨v,H,I,r,h⟩ hd
theorem wx (hg:Gl X x)(hm:X.mg x=none)(hv:bootBuiltins x=some u)(r:aL v u)(hn:x ≠ "__name__":=by decide)(hd:(x == ("__debug__" : Str))=false:=by decide):PE X (.Name x pos) (tC v) :=
 λ_ _ _ H _ I h=>hU I hg hm hv ⟨v,H,I,r,h⟩ hn hd
variable {a b:Expr}{ta tb:TE}{pos:Pos}
def PC (X:Cx)(op:CmpOp)(a b:Expr)(t:TE):Prop :=
 ∀(ac:List (Addr×Obj))(s:Shared)(σ:St)(H:Hp)(Q:VK),Inv X ac σ H s->t σ H Q ->
  wq X (eval a X.env) (λv s₁=>wq X (eval b X.env) (λu s₂=>wq X (compareOp op v u) (EP X ac σ Q) X.xe s₂) X.xe s₁) X.xe s
theorem m6 (b:Expr){op:CmpOp}(h:op≠.In)(h2:op≠.NotIn):behindInMarks op b=false:=by
 have e1:(op == CmpOp.In)=false:=by cases op<;>first|rfl|exact absurd rfl h
 have e2:(op == CmpOp.NotIn)=false:=by cases op<;>first|rfl|exact absurd rfl h2
 cases b<;>simp[behindInMarks,e1,e2]
def tB (t:TE):TT:=λσ H Q=>t σ H λx H1=>∃c,x=.bl c/\Q c H1
theorem MM {op:CmpOp}{t:TE}(h:PC X op a b t)(h1:behindInMarks op b=false:=by first|exact m6 _ (by decide) (by decide)|rfl):PT X (.Compare a [op] [b] pos) (tB t):=by
 intro ac s σ H Q I hw;refine wpAny_isTrue_Compare1 (cb (h ac s σ H _ I hw) λv s1 h1=>cb h1 λu s2 h2=>cb h2 λc s3 ⟨x,H1,I1,r1,q1⟩=>?_) h1;obtain⟨d,rfl,q⟩:=q1;cases r1
 exact wpAny_truthy_bool ⟨H1,I1,q⟩
theorem Gf {e:Expr}{t:TE}(h:PE X e t)(he:∀oh,isTrue e X.env oh=(do let v ←oh;standAt e.pos;holding [v] (truthy v)):=by intro _;rfl):PT X e (tB t):=by
 intro ac s σ H Q I hw;refine isTrue_plain (cb (h ac s σ H _ I hw) λv s1 ⟨x,H1,I1,r1,q1⟩=>?_) (he _);obtain⟨d,rfl,q⟩:=q1;cases r1
 exact wpAny_truthy_bool ⟨H1,I1,q⟩
variable {tA Mu:TT}{rest:List Expr}
def Jn (t u:TT):TT:=λσ H Q=>t σ H λc H1=>if c=true then u σ H1 Q else Q false H1
def Pc (t u:TT):TT:=λσ H Q=>t σ H λc H1=>if c=true then Q true H1 else u σ H1 Q
def Jo (t:TT):TT:=λσ H Q=>t σ H λc H1=>Q (!c) H1
theorem C3 (ha:PT X a tA):PW X (.BoolOp .And [a] pos) tA:=by
 intro wh ac s σ H Q I h;refine isTrue_and (cb (ha ac s σ H Q I h) λc s1 e=>?_);cases c with
 |true=>exact isTrue_and_nil e
 |false=>exact e
theorem Gg (ha:PT X a tA):PW X (.BoolOp .Or [a] pos) tA:=by
 intro wh ac s σ H Q I h;refine isTrue_or (cb (ha ac s σ H Q I h) λc s1 e=>?_);cases c with
 |false=>exact isTrue_or_nil e
 |true=>exact e
theorem Gh (ha:PT X a tA)(hb:PW X (.BoolOp .And (b::rest) pos) Mu):PW X (.BoolOp .And (a::b::rest) pos) (Jn tA Mu):=by
 intro wh ac s σ H Q I h;refine isTrue_and (cb (ha ac s σ H _ I h) λc s1 ⟨H1,I1,q1⟩=>?_);cases c with
 |true=>exact hb wh ac s1 σ H1 Q I1 q1
 |false=>exact⟨H1,I1,q1⟩
theorem Jp (ha:PT X a tA)(hb:PW X (.BoolOp .Or (b::rest) pos) Mu):PW X (.BoolOp .Or (a::b::rest) pos) (Pc tA Mu):=by
 intro wh ac s σ H Q I h;refine isTrue_or (cb (ha ac s σ H _ I h) λc s1 ⟨H1,I1,q1⟩=>?_);cases c with
 |true=>exact⟨H1,I1,q1⟩
 |false=>exact hb wh ac s1 σ H1 Q I1 q1
theorem Gi (ha:PT X a tA):PT X (.UnaryOp .Not a pos) (Jo tA):=by
 intro ac s σ H Q I h;exact isTrue_not (ha ac s σ H (λc H1=>Q (!c) H1) I h)
def Jq (ta tb:TE):TE:=λσ H Q=>ta σ H λx H1=>∃c,x=.bl c/\if c=true then tb σ H1 Q else Q (.bl false) H1
def MN (ta tb:TE):TE:=λσ H Q=>ta σ H λx H1=>∃c,x=.bl c/\if c=true then Q (.bl true) H1 else tb σ H1 Q
def Jr (ta:TE):TE:=λσ H Q=>ta σ H λx H1=>∃c,x=.bl c/\Q (.bl (!c)) H1
theorem Gj {op}(h:PE X a t):PE X (.BoolOp op [a] pos) t:=λac s σ H Q I hw=>BoolOp_one (h ac s σ H Q I hw)
theorem Gk (ha:PE X a ta)(hb:PE X (.BoolOp .And (b::rest) pos) tb):PE X (.BoolOp .And (a::b::rest) pos) (Jq ta tb):=by
 intro ac s σ H Q I h;refine BoolOp_and (cb (ha ac s σ H _ I h) λv s1 ⟨x,H1,I1,r1,q1⟩=>?_);obtain⟨c,rfl,q1⟩:=q1;cases r1
 refine wpAny_truthy_bool ?_;cases c with
 |true=>exact hb ac s1 σ H1 Q I1 q1
 |false=>exact⟨.bl false,H1,I1,rfl,q1⟩
theorem Js (ha:PE X a ta)(hb:PE X (.BoolOp .Or (b::rest) pos) tb):PE X (.BoolOp .Or (a::b::rest) pos) (MN ta tb):=by
 intro ac s σ H Q I h;refine BoolOp_or (cb (ha ac s σ H _ I h) λv s1 ⟨x,H1,I1,r1,q1⟩=>?_);obtain⟨c,rfl,q1⟩:=q1;cases r1
 refine wpAny_truthy_bool ?_;cases c with
 |false=>exact hb ac s1 σ H1 Q I1 q1
 |true=>exact⟨.bl true,H1,I1,rfl,q1⟩
theorem Gm (ha:PE X a ta):PE X (.UnaryOp .Not a pos) (Jr ta):=by
 intro ac s σ H Q I h;refine UnaryOp_ (cb (ha ac s σ H _ I h) λv s1 ⟨x,H1,I1,r1,q1⟩=>?_);obtain⟨c,rfl,q1⟩:=q1;cases r1
 exact not_of (wpAny_truthy_bool ⟨.bl (!c),H1,I1,rfl,q1⟩)
def Q1 (t:TT)(ta tb:TE):TE:=λσ H Q=>t σ H λc H1=>if c=true then ta σ H1 Q else tb σ H1 Q
theorem zJ {c:Expr}(hc:PT X c tA)(ha:PE X a ta)(hb:PE X b tb):PE X (.IfExp c a b pos) (Q1 tA ta tb):=by
 intro ac s σ H Q I h;refine wpAny_IfExp (cb (hc ac s σ H _ I h) λd s1 ⟨H1,I1,q1⟩=>?_);cases d with
 |true=>exact ha ac s1 σ H1 Q I1 q1
 |false=>exact hb ac s1 σ H1 Q I1 q1
end
def fO (K:Frag)(H:Hp)(a:Addr)(xs:List V):Prop :=
 Rd H a (.lst xs) ∨
  ∃(o:Obj)(its:Array Value)(n:Nat),K.lookup a=some o/\o.cls=.type "list"/\o.dict=none/\o.data=.seq its n/\its.size<=sizeLine/\aS xs its.toList
def gA (K:Frag)(H:Hp)(a:Addr)(xs:List V):Prop :=
 Rd H a (.tup xs) ∨
  ∃(o:Obj)(its:Array Value)(n:Nat),K.lookup a=some o/\o.cls=.type "tuple"/\o.data=.seq its n/\its.size<=sizeLine/\aS xs its.toList
noncomputable def MO:Value->Option V
 |.none=>some .non
 |.bool b=>some (.bl b)
 |.int i _=>some (.int i)
 |.str x _=>some (.str x)
 |.bytes b _=>some (.byt b)
 |.float b _=>some (.flt b)
 |.ref a=>some (.ref a)
 |.type n=>some (.ty n)
 |_=>none
theorem aL.abs (r:aL x u):MO u=some x:=by
 cases x with
 |non=>cases r;rfl
 |bl _=>cases r;rfl
 |int _=>obtain⟨t,rfl⟩:=r;rfl
 |str _=>obtain⟨t,rfl⟩:=r;rfl
 |byt _=>obtain⟨t,rfl⟩:=r;rfl
 |flt _=>obtain⟨t,rfl⟩:=r;rfl
 |ref _=>cases r;rfl
 |ty _=>cases r;rfl
theorem aL.inj (r:aL x u)(q:aL y u):x=y:=vK (r.abs.symm.trans q.abs)
theorem aS.inj:∀ {xs ys:List V}{us:List Value},aS xs us->aS ys us->xs=ys
 |_,_,_,.nil,.nil=>rfl
 |_,_,_,.cons r t,.cons r' t'=>by rw[r.inj r',aS.inj t t']
section
variable {X:Cx}{ac:List (Addr×Obj)}{σ:St}{H:Hp}{s:Shared}{a:Addr}{xs ys:List V}
theorem fO.of {K:Frag}(h:H a=some (.lst xs)):fO K H a xs:=.inl (.inl h)
theorem gA.of {K:Frag}(h:H a=some (.tup xs)):gA K H a xs:=.inl (.inl h)
theorem Inv.list (I:Inv X ac σ H s)(h:fO X.K H a xs):∃its:List Value,aS xs its/\PlainL s.heap a its.toArray/\xs.length<=sizeLine:=by
 rcases h with h|⟨o,its,n,hk,hc,hd,hs,hz,r⟩
 ·obtain⟨z,its,n,r,e⟩:=h.ok I.hok;exact⟨its,r,⟨_,n,e,rfl,rfl,rfl⟩,z⟩
 ·refine⟨its.toList,r,⟨o,n,I.kIn a o hk,hc,hd,by simpa using hs⟩,?_⟩;have e:=r.length;simp only[vG]at e;omega
theorem Inv.tuple (I:Inv X ac σ H s)(h:gA X.K H a xs):∃its:List Value,aS xs its/\IsTup s.heap a its.toArray/\xs.length<=sizeLine:=by
 rcases h with h|⟨o,its,n,hk,hc,hs,hz,r⟩
 ·obtain⟨z,its,r,p⟩:=h.ok I.hok;exact⟨its,r,p,z⟩
 ·refine⟨its.toList,r,⟨o,I.kIn a o hk,hc,n,by simpa using hs⟩,?_⟩;have e:=r.length;simp only[vG]at e;omega
theorem Inv.list_inj (I:Inv X ac σ H s)(h:fO X.K H a xs)(h':fO X.K H a ys):xs=ys:=by
 obtain⟨its,r,⟨o,n,e,_,_,d⟩,_⟩:=I.list h;obtain⟨its',r',⟨o',n',e',_,_,d'⟩,_⟩:=I.list h';rw[e]at e';cases e';rw[d]at d';injection d' with d1 _;have:its=its':=by simpa using congrArg Array.toList d1
 subst this;exact r.inj r'
theorem Inv.tuple_inj (I:Inv X ac σ H s)(h:gA X.K H a xs)(h':gA X.K H a ys):xs=ys:=by
 obtain⟨its,r,⟨o,e,_,n,d⟩,_⟩:=I.tuple h;obtain⟨its',r',⟨o',e',_,n',d'⟩,_⟩:=I.tuple h';rw[e]at e';cases e';rw[d]at d';injection d' with d1 _;have:its=its':=by simpa using congrArg Array.toList d1
 subst this;exact r.inj r'
end
noncomputable abbrev Cx.wish (X:Cx)(E:Value->Shared->Prop):Cx:={ X with xe:=E }
noncomputable abbrev Cx.nox (X:Cx):Cx:=X.wish λ_ _=>False
theorem Cx.Ok.wish {X:Cx}(ok:X.Ok)(E:Value->Shared->Prop):(X.wish E).Ok :=
 ⟨ok.mod,ok.kind,ok.glob,ok.blt,ok.above,ok.inj,ok.has,ok.cab,ok.hd,ok.frames,ok.stk,ok.exf,ok.bs,ok.bsz,ok.noex,ok.exfs,ok.funs,ok.frf⟩
theorem Cx.Ok.unwish {X:Cx}{E:Value->Shared->Prop}(ok:(X.wish E).Ok):X.Ok :=
 ⟨ok.mod,ok.kind,ok.glob,ok.blt,ok.above,ok.inj,ok.has,ok.cab,ok.hd,ok.frames,ok.stk,ok.exf,ok.bs,ok.bsz,ok.noex,ok.exfs,ok.funs,ok.frf⟩
section
variable {X:Cx}{ac:List (Addr×Obj)}{σ:St}{H:Hp}{s:Shared}{E:Value->Shared->Prop}
theorem Inv.wish (I:Inv X ac σ H s)(E:Value->Shared->Prop):Inv (X.wish E) ac σ H s:=⟨I.ok.wish E,I.os,I.bare,I.base,I.loc,I.cell,I.free,I.freeC,I.pin,I.hok,I.len⟩
theorem Inv.unwish (I:Inv (X.wish E) ac σ H s):Inv X ac σ H s:=⟨I.ok.unwish,I.os,I.bare,I.base,I.loc,I.cell,I.free,I.freeC,I.pin,I.hok,I.len⟩
theorem SP.unwish (h:SP (X.wish E) ac D f s'):SP X ac D f s':=by
 cases f with
 |next=>obtain⟨σ',H',I,q⟩:=h;exact⟨σ',H',I.unwish,q⟩
 |brk=>obtain⟨σ',H',I,q⟩:=h;exact⟨σ',H',I.unwish,q⟩
 |cont=>obtain⟨σ',H',I,q⟩:=h;exact⟨σ',H',I.unwish,q⟩
 |ret u=>obtain⟨v,σ',H',I,r,q⟩:=h;exact⟨v,σ',H',I.unwish,r,q⟩
theorem PE.nox (h:PE X.nox e t):PE X e t:=λac s σ H Q I hw=>
 wpAny_mono (h ac s σ H Q (I.wish _) hw) (λ_ _ ⟨v,H',I',r,q⟩=>⟨v,H',I'.unwish,r,q⟩) λ_ _ z=>False.elim z
theorem PT.nox (h:PT X.nox e t):PT X e t:=λac s σ H Q I hw=>
 wpAny_mono (h ac s σ H Q (I.wish _) hw) (λ_ _ ⟨H',I',q⟩=>⟨H',I'.unwish,q⟩) λ_ _ z=>False.elim z
theorem lD.nox {st:List Stmt}{t:TS}(h:lD X.nox st t):lD X st t:=λac s σ H D I hw=>
 wpAny_mono (h ac s σ H D (I.wish _) hw) (λ_ _ q=>q.unwish) λ_ _ z=>False.elim z
end
section
variable {X:Cx}{st:Stmt}{rest:List Stmt}{t u:TS}{e:Expr}{te:TE}{pos:Pos}
def wy:TS:=λD σ H=>D.nx σ H
def ud (t u:TS):TS:=λD σ H=>t { D with nx:=u D } σ H
theorem mh:lD X [] wy:=λ_ _ σ H _ I h=>wpAny_execs_nil ⟨σ,H,I,h⟩
theorem dv (h1:PS X st t)(h2:lD X rest u):lD X (st::rest) (ud t u):=by
 intro ac s σ H D I h;refine wpAny_execs_cons (cb (h1 ac s σ H { D with nx:=u D } I h) λf s1 q=>?_);cases f with
 |next=>
  obtain⟨σ',H',I',q⟩:=q;exact h2 ac s1 σ' H' D I' q
 |ret v=>exact q
 |brk=>exact q
 |cont=>exact q
theorem hV (h1:PS X st t):lD X [st] t:=by
 intro ac s σ H D I h;refine wpAny_execs_cons (cb (h1 ac s σ H D I h) λf s1 q=>?_);cases f with
 |next=>exact wpAny_execs_nil q
 |ret v=>exact q
 |brk=>exact q
 |cont=>exact q
theorem Inv.quiet (I:Inv X ac σ H s):interactive X.env=false:=by simp[interactive,I.ok.kind]
def Jt (te:TE):TS:=λD σ H=>te σ H λ_ H1=>D.nx σ H1
theorem wz (he:PE X e te)(hs:swapsWith e none pos.line X.env=pure false:=by rfl):PS X (.Expr e pos) (Jt te):=by
 intro ac s σ H D I h;exact wpAny_Expr_any (cb (he ac s σ H _ I h) λv s1 ⟨x,H1,I1,r1,q1⟩=>⟨σ,H1,I1,q1⟩) I.quiet hs
def C4 (te:TE):TS:=λD σ H=>te σ H D.rt
theorem la (he:PE X e te):PS X (.Return (some e) pos) (C4 te):=by
 intro ac s σ H D I h;exact wpAny_Return_some (cb (he ac s σ H _ I h) λv s1 ⟨x,H1,I1,r1,q1⟩=>⟨x,σ,H1,I1,r1,q1⟩)
def C5 (c:TT)(t u:TS):TS:=λD σ H=>c σ H λb H1=>if b=true then t D σ H1 else u D σ H1
theorem w4 {c:Expr}{a b:List Stmt}{tc:TT}(hc:PT X c tc)(ha:lD X a t)(hb:lD X b u):PS X (.If c a b pos) (C5 tc t u):=by
 intro ac s σ H D I h;refine wpAny_If (cb (hc ac s σ H _ I h) λd s1 ⟨H1,I1,q1⟩=>?_);cases d with
 |true=>exact ha ac s1 σ H1 D I1 q1
 |false=>exact hb ac s1 σ H1 D I1 q1
end
abbrev TG:=V->St->Hp->(St->Hp->Prop)->Prop
abbrev Gn:=List V->St->Hp->(St->Hp->Prop)->Prop
def PG (X:Cx)(oi:Expr)(t:TG):Prop :=
 ∀(ac:List (Addr×Obj))(s:Shared)(σ:St)(H:Hp)(v:V)(u:Value)(Q:St->Hp->Prop),Inv X ac σ H s->aL v u->t v σ H Q ->
  wq X (assign oi X.env u) (λ_ s'=>∃σ' H',Inv X ac σ' H' s'/\Q σ' H') X.xe s
def w5 (X:Cx)(ts:List Expr)(t:Gn):Prop :=
 ∀(ac:List (Addr×Obj))(s:Shared)(σ:St)(H:Hp)(vs:List V)(us:List Value)(Q:St->Hp->Prop),Inv X ac σ H s->aS vs us->t vs σ H Q ->
  wq X (assignInOrder ((assignEach ts X.env).map (·.2)) us) (λ_ s'=>∃σ' H',Inv X ac σ' H' s'/\Q σ' H') X.xe s
abbrev Go:=V->V->V->Hp->(Hp->Prop)->Prop
def Ju (X:Cx)(t:Go):Prop :=
 ∀(ac:List (Addr×Obj))(s:Shared)(σ:St)(H:Hp)(o i v:V)(ov iv u:Value)(Q:Hp->Prop),Inv X ac σ H s->aL o ov->aL i iv->aL v u->t o i v H Q ->
  wq X (setItem ov iv u) (λ_ s'=>∃H',Inv X ac σ H' s'/\Q H') X.xe s
section
variable {X:Cx}{pos:Pos}
def gI (i:Nat):TG:=λv σ H Q=>Q (σ.set i (some v)) H
theorem w6 (hN:X.N.Nodup)(hi:X.N[i]? = some x)(hx:EK X.env.scope x)(hf:X.fn x=true∨X.env.scope.names.lookup x=some .local:=by first|exact .inl rfl|exact .inr rfl|assumption):PG X (.Name x pos) (gI i):=by
 intro ac s σ H v u Q I r h;exact wpAny_assign_Name (ka I hN hi hx r (λs' I'=>⟨_,H,I',h⟩) hf)
def Jv:Gn:=λvs σ H Q=>vs=[]/\Q σ H
def EL (t:TG)(u:Gn):Gn:=λvs σ H Q=>∃v r,vs=v::r/\t v σ H λσ' H'=>u r σ' H' Q
theorem mi:w5 X [] Jv:=by
 intro ac s σ H vs us Q I r h;obtain⟨e,h⟩:=h;subst e;cases r
 exact assignInOrder_nil ⟨σ,H,I,h⟩
theorem eP {e:Expr}{es:List Expr}{t:TG}{u:Gn}(h1:PG X e t)(h2:w5 X es u)
  (hs:(assignEach (e::es) X.env).map (·.2)=assign e X.env::(assignEach es X.env).map (·.2):=by rfl):w5 X (e::es) (EL t u):=by
 intro ac s σ H vs us Q I r h;obtain⟨v,vr,e1,h⟩:=h;subst e1;cases r with
 |cons r rr=>
  rw[hs];refine assignInOrder_cons (cb (h1 ac s σ H _ _ _ I r h) λ_ s1 ⟨σ1,H1,I1,q1⟩=>?_);exact h2 ac s1 σ1 H1 _ _ Q I1 rr q1
def Gp (K:Frag)(n:Nat)(t:Gn):TG:=λv σ H Q=>∃a xs,v=.ref a/\gA K H a xs/\xs.length=n/\t xs σ H Q
theorem qo (hc:X.calm=true)(h:w5 X es t)
  (hn:(assignEach es X.env).length=n:=by rfl) (kU:(assignEach es X.env).findIdx? (·.1)=none:=by rfl):PG X (.Tuple es k pos) (Gp X.K n t):=by
 intro ac s σ H v u Q I r hw;obtain⟨a,xs,e1,hq,hl,hw⟩:=hw;subst e1;cases r
 obtain⟨its,rv,ht,hz⟩:=I.tuple hq;refine assign_Tuple_tuple (I.ok.hd hc) ht (by simp[hn,←hl,rv.length]) kU λh' hx=>?_;have I1:Inv X ac σ H { s with heap:=h' }:=I.kept (t':=s.toks) λb o e=>hx b o (vS (vX e)) e;exact h ac _ σ H xs _ Q I1 (by simpa using rv) hw
def MP (to ti:TE)(t:Go):TG:=λv σ H Q=>to σ H λo H1=>ti σ H1 λi H2=>t o i v H2 λH3=>Q σ H3
theorem Gq {o i:Expr}{to ti:TE}{t:Go}(ho:PE X o to)(hi:PE X i ti)(hs:Ju X t)
  (ha:∀v,assign (.Subscript o i pos) X.env v=(do
   let ov ←holding [v] (eval o X.env)
   let iv ←holding [v,ov] (eval i X.env)
   standAt pos
   holding [v,ov,iv] (setItem ov iv v)
   release [v,ov,iv] []):=by intro _;rfl):PG X (.Subscript o i pos) (MP to ti t):=by
 intro ac s σ H v u Q I r h;rw[ha];refine wX (wpAny_holding (cb (ho ac s σ H _ I h) λov s1 ⟨x,H1,I1,r1,q1⟩=>?_));refine wX (wpAny_holding (cb (hi ac s1 σ H1 _ I1 q1) λiv s2 ⟨y,H2,I2,r2,q2⟩=>?_));refine wX (wpAny_standAt (wX (wpAny_holding (cb (hs ac s2 σ H2 x y v ov iv u _ I2 r1 r2 r q2) λ_ s3 ⟨H3,I3,q3⟩=>?_))));exact wpAny_release ⟨σ,H3,I3,q3⟩
def rz (te:TE)(g:TG):TS:=λD σ H=>te σ H λx H1=>g x σ H1 D.nx
theorem Gr {tg e:Expr}{te:TE}{g:TG}(he:PE X e te)(hg:PG X tg g)(hs:swapsWithSole [tg] e pos.line X.env=pure false:=by rfl)(hw:swappedStores [tg] e X.env=pure none:=by rfl)
  (h1:(assignEach [tg] X.env).map (·.2)=[assign tg X.env]:=by rfl):PS X (.Assign [tg] e pos) (rz te g):=by
 intro ac s σ H D I h;refine wpAny_Assign_stores (cb (he ac s σ H _ I h) λv s1 ⟨x,H1,I1,r1,q1⟩=>?_) hs hw;rw[h1];exact cb (hg ac s1 σ H1 x v _ I1 r1 q1) λ_ s2 q=>q
theorem hW {i:Nat}{x:Str}{e:Expr}{te:TE}{zr:Pos}(hN:X.N.Nodup)(hi:X.N[i]? = some x)(hx:EK X.env.scope x)(he:PE X e te)(hs:swapsWith e (some (.Name x zr)) pos.line X.env=pure false:=by rfl)(hf:X.fn x=true∨X.env.scope.names.lookup x=some .local:=by first|exact .inl rfl|exact .inr rfl|assumption):
  PS X (.Assign [.Name x zr] e pos) (rz te (gI i)):=by
 intro ac s σ H D I h;refine wpAny_Assign_Name (cb (he ac s σ H _ I h) λv s1 ⟨y,H1,I1,r1,q1⟩=>?_) hs;exact ka I1 hN hi hx r1 (λs2 I2=>⟨_,H1,I2,q1⟩) hf
end
structure It where
 go:Nat->Hp->Prop
 yld:Nat->Hp->V->Hp->Prop
 stop:Nat->Hp->Prop
def kc (X:Cx)(ac:List (Addr×Obj))(H:Hp)(b:Addr):Prop :=
 H b=none/\b≠X.env.locals/\b∉X.fs/\(b∈X.ex∨X.s₀.heap.objs.size<=b)/\(∀x c,X.env.cells.lookup x=some c->c≠b)/\∀p∈X.pn++ac,p.1≠b
theorem Inv.fpOk (I:Inv X ac σ H s)(hb:s.heap.objs.size<=b)(hn:H' b=none):kc X ac H' b:=by
 refine⟨hn,Nat.ne_of_gt (vQ I.lt hb),I.nofs hb,.inr (vR I.sz hb),λx c e z=>?_,λp hp z=>?_⟩
 ·obtain⟨v,q⟩:=I.cell x c e;exact absurd (vQ q.lt (by rw[z];exact hb)) (Nat.lt_irrefl _)
 ·exact absurd (vQ (vX (I.pin p hp).1) (by rw[z];exact hb)) (Nat.lt_irrefl _)
structure Turn (P:Program)(w:World)(K:Frag)(tg:Expr)(J:It)(fp:List Addr)(it:Addr)(tn:Nat->Heap->Prop):Prop where
 mem:it∈fp
 obj:∀i h,tn i h->∀b∈fp,∃o,h.get? b=some o/\∀v,o.data≠.cell v
 keep:∀i h h',tn i h->(∀b∈fp,∀o,h.get? b=some o->h'.get? b=some o)->tn i h'
 item:∀(X:Cx),X.prog=P->X.w=w->X.K=K->X.calm=true->∀(i:Nat)(ac:List (Addr×Obj))(s:Shared)(σ:St)(H:Hp)(E:Value->Shared->Prop),Inv X ac σ H s->(∀b∈fp,kc X ac H b)->tn i s.heap->J.go i H ->
  wpAny (model P w) X.A (pyNext (.ref it)) (λr s1=>∃u,r=some u /\
   wpAny (model P w) X.A (letOwnedTupleGo tg (.ref it) u) (λ_ s2=>∃x H',Inv X ac σ H' s2/\aL x u/\J.yld i H x H'/\tn (i+1) s2.heap/\∀b∈fp,H' b=none) E s1) E s
 done:∀(X:Cx),X.prog=P->X.w=w->X.K=K->X.calm=true->∀(i:Nat)(ac:List (Addr×Obj))(s:Shared)(σ:St)(H:Hp)(E:Value->Shared->Prop),Inv X ac σ H s->(∀b∈fp,kc X ac H b)->tn i s.heap->J.stop i H ->
  wpAny (model P w) X.A (pyNext (.ref it)) (λr s1=>r=none/\Inv X ac σ H s1) E s
 self:∀(A:Around)(i:Nat)(s:Shared)(Q:Value->Shared->Prop)(E:Value->Shared->Prop),tn i s.heap->Q (.ref it) s->wpAny (model P w) A (pyIter (.ref it)) Q E s
abbrev TI:=St->Hp->(It->Hp->Prop)->Prop
def MQ (X:Cx)(ac:List (Addr×Obj))(σ:St)(tg:Expr)(R:It->Hp->Prop)(Mv:Value)(s2:Shared):Prop :=
 ∃(it:Addr)(fp:List Addr)(tn:Nat->Heap->Prop)(J:It)(H':Hp),Mv=.ref it/\Inv X ac σ H' s2/\Turn X.prog X.w X.K tg J fp it tn/\tn 0 s2.heap/\(∀b∈fp,kc X ac H' b)/\R J H'
def PI (X:Cx)(tg cj:Expr)(wi:TI):Prop :=
 ∀(ac:List (Addr×Obj))(s:Shared)(σ:St)(H:Hp)(R:It->Hp->Prop),Inv X ac σ H s->wi σ H R ->
  wq X (eval cj X.env) (λv s1=>wq X (pyIter v) (MQ X ac σ tg R) X.xe s1) X.xe s
theorem oJ (ho:s.heap.get? it=some o)(hc:o.cls=.type n)(hd:o.data=.fields vs)
    (hn:["enumerate","zip","dict_itemiterator","dict_reverseitemiterator","odict_iterator","itertools.zip_longest","itertools.pairwise"].contains n=false) (hQ:Q () s):wpAny M A (letOwnedTupleGo tg (.ref it) u) Q E s:=by
  unfold letOwnedTupleGo;cases tg<;>first
    |exact wY hQ
    | (cases u<;>first
        |exact wY hQ
        | (refine wX (wpAny_load ho ?_)
           rw[hc,hd]
           show wpAny M A (if(["enumerate","zip","dict_itemiterator","dict_reverseitemiterator","odict_iterator","itertools.zip_longest","itertools.pairwise"].contains n && vs[0]? == some (rawInt _))=true then _ else _) Q E s
           rw[if_neg (by intro h;rw[hn,Bool.false_and]at h;cases h)]
           exact wY hQ))
noncomputable def Pd (K:Frag)(a:Addr):It :=
 ⟨λi H=>∃xs x,fO K H a xs/\xs[i]? = some x,λi H x H'=>H'=H/\∀xs,fO K H a xs->xs[i]? = some x,λi H=>∃xs,fO K H a xs/\xs.length<=i⟩
noncomputable def Pe (K:Frag)(a:Addr):It :=
 ⟨λi H=>∃xs x,gA K H a xs/\xs[i]? = some x,λi H x H'=>H'=H/\∀xs,gA K H a xs->xs[i]? = some x,λi H=>∃xs,gA K H a xs/\xs.length<=i⟩
noncomputable def Mj (lo:Int)(n:Nat):It:=⟨λi _=>i<n,λi H x H'=>H'=H/\x=.int (lo+i),λi _=>n<=i⟩
theorem yi {P:Program}{w:World}{K:Frag}{tg:Expr}(a it:Addr):Turn P w K tg (Pd K a) [it] it (λi h=>h.IsListIter it a i) where
 mem:=by simp
 obj:=λi h st b hb=>by
  have e:b=it:=by simpa using hb
  subst e;obtain⟨o,e,c,d⟩:=st;exact⟨o,e,λv z=>by rw[d]at z;cases z⟩
 keep:=λi h h' st k=>st.at λo e=>k it (by simp) o e
 item:=by
  intro X hP hw hK hc i ac s σ H E I hf st hg;subst hP hw hK;obtain⟨xs,x,hq,hx⟩:=hg;obtain⟨its,rv,p,hz⟩:=I.list hq;obtain⟨u,hu,ru⟩:=rv.get hx;obtain⟨f0,f1,f2,f3,f4,f5⟩:=hf it (by simp);refine wpAny_pyNext_list_item st p.isList (x:=u) (by simpa using hu) λh' oj sb=>?_;have I1:Inv X ac σ H { s with heap:=h' }:=I.turned (t':=s.toks) (λb o hb e=>(sb.2 b hb).trans e) f0 f1 f3 f4 f5;obtain⟨o,e,c,d⟩:=id oj;exact⟨u,rfl,oJ (s:={ s with heap:=h' }) e c d (by decide) ⟨x,H,I1,ru,⟨rfl,λys hy=>by rw[I.list_inj hy hq];exact hx⟩,oj,λb hb=>(hf b hb).1⟩⟩
 done:=by
  intro X hP hw hK hc i ac s σ H E I hf st hg;subst hP hw hK;obtain⟨xs,hq,hx⟩:=hg;obtain⟨its,rv,p,hz⟩:=I.list hq;obtain⟨f0,f1,f2,f3,f4,f5⟩:=hf it (by simp);have hl:=rv.length;exact wpAny_pyNext_list_end (I.ok.hd hc) st p.isList (by simp;omega) λh' eb=>⟨rfl,I.turned (t':=s.toks) (λb o hb e=>eb b o hb e) f0 f1 f3 f4 f5⟩
 self:=λ_ _ _ _ _ st h=>wpAny_pyIter_listiter st h
theorem ue {P:Program}{w:World}{K:Frag}{tg:Expr}(a it:Addr):Turn P w K tg (Pe K a) [it] it (λi h=>h.IsTupleIter it a i) where
 mem:=by simp
 obj:=λi h st b hb=>by
  have e:b=it:=by simpa using hb
  subst e;obtain⟨o,e,c,d⟩:=st;exact⟨o,e,λv z=>by rw[d]at z;cases z⟩
 keep:=λi h h' st k=>st.at λo e=>k it (by simp) o e
 item:=by
  intro X hP hw hK hc i ac s σ H E I hf st hg;subst hP hw hK;obtain⟨xs,x,hq,hx⟩:=hg;obtain⟨its,rv,p,hz⟩:=I.tuple hq;obtain⟨u,hu,ru⟩:=rv.get hx;obtain⟨f0,f1,f2,f3,f4,f5⟩:=hf it (by simp);refine wpAny_pyNext_tuple_item st (show s.heap.IsTuple a its.toArray from p) (x:=u) (by simpa using hu) λh' oj sb=>?_;have I1:Inv X ac σ H { s with heap:=h' }:=I.turned (t':=s.toks) (λb o hb e=>(sb.2 b hb).trans e) f0 f1 f3 f4 f5;obtain⟨o,e,c,d⟩:=id oj;exact⟨u,rfl,oJ (s:={ s with heap:=h' }) e c d (by decide) ⟨x,H,I1,ru,⟨rfl,λys hy=>by rw[I.tuple_inj hy hq];exact hx⟩,oj,λb hb=>(hf b hb).1⟩⟩
 done:=by
  intro X hP hw hK hc i ac s σ H E I hf st hg;subst hP hw hK;obtain⟨xs,hq,hx⟩:=hg;obtain⟨its,rv,p,hz⟩:=I.tuple hq;obtain⟨f0,f1,f2,f3,f4,f5⟩:=hf it (by simp);have hl:=rv.length;exact wpAny_pyNext_tuple_end (I.ok.hd hc) st (show s.heap.IsTuple a its.toArray from p) (by simp;omega) λh' eb=>⟨rfl,I.turned (t':=s.toks) (λb o hb e=>eb b o hb e) f0 f1 f3 f4 f5⟩
 self:=λ_ _ _ _ _ st h=>wpAny_pyIter_tupleiter st h
theorem uf {P:Program}{w:World}{K:Frag}{tg:Expr}(it:Addr)(lo:Int)(n:Nat):Turn P w K tg (Mj lo n) [it] it (λi h=>IsRangeIter h it (lo+(i:Nat)*1) ((n:Int) - (i:Nat)) 1) where
 mem:=by simp
 obj:=λi h st b hb=>by
  have e:b=it:=by simpa using hb
  subst e;exact⟨_,st,λv z=>by
   have z':Data.fields _=Data.cell v:=z;cases z'⟩
 keep:=λi h h' st k=>k it (by simp) _ st
 item:=by
  intro X hP hw hK hc i ac s σ H E I hf st hg;subst hP hw hK;obtain⟨f0,f1,f2,f3,f4,f5⟩:=hf it (by simp);have W:=Walks.range (prog:=X.prog) (w:=X.w) (I.ok.hd hc) it lo 1 n;refine W.item i s _ _ hg st λv h' tk hv oj kk=>?_;obtain⟨t,rfl⟩:=hv;have I1:Inv X ac σ H { s with heap:=h',toks:=tk }:=I.turned (λb o hb e=>kk b o (by simpa using hb) e) f0 f1 f3 f4 f5;refine⟨_,rfl,oJ (s:={ s with heap:=h',toks:=tk }) (n:="range_iterator") oj rfl rfl (by decide) ⟨.int (lo+i),H,I1,⟨t,?_⟩,⟨rfl,rfl⟩,oj,λb hb=>(hf b hb).1⟩⟩;rw[Int.mul_one]
 done:=by
  intro X hP hw hK hc i ac s σ H E I hf st hg;subst hP hw hK;obtain⟨f0,f1,f2,f3,f4,f5⟩:=hf it (by simp);exact wpAny_pyNext_range_end (I.ok.hd hc) st (by have:n<=i:=hg;omega) λh' eb=>⟨rfl,I.turned (t':=s.toks) (λb o hb e=>eb b o hb e) f0 f1 f3 f4 f5⟩
 self:=λ_ _ _ _ _ st h=>wpAny_pyIter_rangeiter st h
section
variable {X:Cx}{tg:Expr}
def Jw (K:Frag)(tl:TE):TI:=λσ H R=>tl σ H λx H1=>∃a,x=.ref a/\(∃xs,fO K H1 a xs)/\R (Pd K a) H1
def MR (K:Frag)(tl:TE):TI:=λσ H R=>tl σ H λx H1=>∃a,x=.ref a/\(∃xs,gA K H1 a xs)/\R (Pe K a) H1
theorem C6 {l:Expr}{tl:TE}(hl:PE X l tl):PI X tg l (Jw X.K tl):=by
 intro ac s σ H R I h;refine cb (hl ac s σ H _ I h) λv s1 ⟨x,H1,I1,r1,q1⟩=>?_;obtain⟨a,e,⟨xs,hq⟩,q⟩:=q1;subst e;cases r1
 obtain⟨its,rv,p,hz⟩:=I1.list hq;refine wpAny_pyIter_list p.isList ?_;refine⟨s1.heap.objs.size,[s1.heap.objs.size],_,_,H1,rfl,I1.kept (t':=s1.toks) λb o e=>vZ _ e,yi a _,⟨_,vY _ rfl,rfl,rfl⟩,λb hb=>?_,q⟩;have e:b=s1.heap.objs.size:=by simpa using hb
 subst e;exact I1.fpOk (vT _) (I1.hok.fresh (vT _))
theorem Gs {l:Expr}{tl:TE}(hl:PE X l tl):PI X tg l (MR X.K tl):=by
 intro ac s σ H R I h;refine cb (hl ac s σ H _ I h) λv s1 ⟨x,H1,I1,r1,q1⟩=>?_;obtain⟨a,e,⟨xs,hq⟩,q⟩:=q1;subst e;cases r1
 obtain⟨its,rv,p,hz⟩:=I1.tuple hq;refine wpAny_pyIter_tuple (show s1.heap.IsTuple a its.toArray from p) ?_;refine⟨s1.heap.objs.size,[s1.heap.objs.size],_,_,H1,rfl,I1.kept (t':=s1.toks) λb o e=>vZ _ e,ue a _,⟨_,vY _ rfl,rfl,rfl⟩,λb hb=>?_,q⟩;have e:b=s1.heap.objs.size:=by simpa using hb
 subst e;exact I1.fpOk (vT _) (I1.hok.fresh (vT _))
theorem zK {ac:List (Addr×Obj)}{σ:St}{H:Hp}{s:Shared}{R:It->Hp->Prop}{E:Value->Shared->Prop}{lo hi:Int}{t u v:Tok}{tk:Nat}(I:Inv X ac σ H s)(h1 : -(2 ^ 62)<=lo)(h2:lo<2 ^ 62)(h3 : -(2 ^ 62)<=hi)(h4:hi<2 ^ 62)
  (q:R (Mj lo (hi - lo).toNat) H):wq X (pyIter (.ref s.heap.objs.size)) (MQ X ac σ tg R) E { s with heap:=s.heap.push { cls:=.type "range",data:=.fields #[.int lo t,.int hi u,.int 1 v] },toks:=tk }:=by
 refine wpAny_pyIter_range (IsRange.new ..) (small_one h1 h2 h3 h4) ?_;have I1:Inv X ac σ H { s with heap:=s.heap.push { cls:=.type "range",data:=.fields #[.int lo t,.int hi u,.int 1 v] },toks:=tk }:=I.kept λb o e=>vZ _ e;refine⟨(s.heap.push { cls:=.type "range",data:=.fields #[.int lo t,.int hi u,.int 1 v] }).objs.size,[(s.heap.push { cls:=.type "range",data:=.fields #[.int lo t,.int hi u,.int 1 v] }).objs.size],_,_,H,rfl,
  I1.kept (t':=tk) λb o e=>vZ _ e,uf _ lo (hi - lo).toNat,?_,λb hb=>?_,q⟩
 ·have e1:lo+((0:Nat):Int)*1=lo:=by simp
  have e2:(((hi - lo).toNat:Nat):Int) - ((0:Nat):Int)=Builtin.Range.rangeSize lo hi 1:=by rw[rangeSize_one];split<;>omega
  show IsRangeIter _ _ (lo+((0:Nat):Int)*1) ((((hi - lo).toNat:Nat):Int) - ((0:Nat):Int)) 1;rw[e1,e2];exact vY _ rfl
 ·have e:b=(s.heap.push { cls:=.type "range",data:=.fields #[.int lo t,.int hi u,.int 1 v] }).objs.size:=by simpa using hb
  subst e;exact I1.fpOk (vT _) (I1.hok.fresh (vT _))
def Jx (ta:TA):TI:=λσ H R=>ta σ H λvs H1=>∃j:Int,vs=[.int j]/\-(2 ^ 62)<=j/\j<2 ^ 62/\R (Mj 0 j.toNat) H1
theorem yj {a:Expr}{ta:TA}{p pos:Pos}(hg:Gl X "range")(hm:X.mg "range" = none)(ha:PA X [a] ta)(hs:starEach [a] X.env=[(false,eval a X.env)]:=by rfl):PI X tg (.Call (.Name "range" p) [a] [] pos) (Jx ta):=by
 intro ac s σ H R I h;refine Call_ (hU I hg hm boot_range (PyProof.Rows.callWith_type1 (cb (ha pos ac s σ H _ I h) λus s1 ⟨vs,H1,I1,r1,q1⟩=>?_) hs rfl));obtain⟨j,e,q1,q2,q⟩:=q1;subst e;cases r1 with
 |cons r rr=>
  cases rr
  obtain⟨t,rfl⟩:=r;exact call_range_1 (zK I1 (by omega) (by omega) q1 q2 (by simpa using q))
def Gu (wi:TI)(g:TG)(tb:TS):TS:=λD σ H=>wi σ H λJ H1=>∃W:Nat->Nat->St->Hp->Prop,(∃m,W 0 m σ H1)/\∀i m σ H,W i m σ H ->
 (J.stop i H/\D.nx σ H)∨(J.go i H/\∃N:St->Hp->Prop,(∀σ' H',N σ' H'->∃m',m'<m/\W (i+1) m' σ' H')/\∀x H',J.yld i H x H'->g x σ H' λσ2 H2=>tb { D with nx:=N,ct:=N,bk:=D.nx } σ2 H2)
def lb (fp:List Addr)(h:Heap):List (Addr×Obj):=fp.filterMap λb=>(h.get? b).map λo=>(b,o)
theorem hZ {fp:List Addr}{h:Heap}{b:Addr}{o:Obj}(hb:b∈fp)(e:h.get? b=some o):(b,o)∈lb fp h:=List.mem_filterMap.mpr ⟨b,hb,by rw[e];rfl⟩
theorem yk (hp:p∈lb fp h):p.1∈fp/\h.get? p.1=some p.2:=by
 obtain⟨b,hb,e⟩:=List.mem_filterMap.mp hp;cases q:h.get? b with
 |none=>rw[q]at e;cases e
 |some o=>
  rw[q]at e;have e':(b,o)=p:=vK e;subst e';exact⟨hb,q⟩
theorem Inv.pinned (I:Inv X ac σ H s)(hf:∀b∈fp,kc X ac H b)(ho:∀b∈fp,∃o,s.heap.get? b=some o/\∀v,o.data≠.cell v):Inv X (ac++lb fp s.heap) σ H s :=
 I.pins_of λp hp=>(List.mem_append.mp hp).elim (λz=>I.pin p (mY _ z)) λz=>by
  obtain⟨hb,e⟩:=yk z;obtain⟨f0,f1,f2,_⟩:=hf p.1 hb;obtain⟨o,e',d⟩:=ho p.1 hb;rw[e]at e';cases e';exact⟨e,f0,f1,f2,d⟩
theorem Inv.unpinned (I:Inv X (ac++pl) σ H s):Inv X ac σ H s:=I.pins_of λp hp=>I.pin p (mY _ (List.mem_append_left _ hp))
theorem ug {cj:Expr}{body:List Stmt}{wi:TI}{g:TG}{tb:TS}{pos:Pos}(hp:PassesOwn (model X.prog X.w) X.A X.env X.xe)(hc:X.calm=true)(hi:PI X tg cj wi)(hg:PG X tg g)(hb:lD X body tb)
  (hs:∀x,foldedSetIterable cj X.env x=pure x:=by intro _;rfl):PS X (.For tg cj body [] pos) (Gu wi g tb):=by
 intro ac s σ H D I h;refine wpAny_For (cb (hi ac s σ H _ I h) λv s1 h1=>cb h1 λMv s2 h2=>?_) hs;obtain⟨it,fp,tn,J,H2,e,I2,T,wk,f2,W,⟨m0,w0⟩,Il⟩:=h2;subst e
 -- what stays true of the iterator's objects through the zu
 have Im:∀ {H':Hp},(∀b∈fp,H' b=none)->∀b∈fp,kc X ac H' b:=λhn b hb=>⟨hn b hb,(f2 b hb).2⟩;refine codeAny_forLoop_any (λn s'=>∃i σ' H',Inv X ac σ' H' s'/\tn i s'.heap/\(∀b∈fp,H' b=none)/\W i n σ' H') ?_ m0 ⟨0,σ,H2,I2,wk,λb hb=>(f2 b hb).1,w0⟩;rintro n s3 ⟨i,σ3,H3,I3,Ln,P4,w3⟩;rcases Il i n σ3 H3 w3 with⟨stop,qn⟩|⟨go,N,hN,step⟩
 ·refine wpAny_passesOwn hp (cb (T.done X rfl rfl rfl hc i ac s3 σ3 H3 X.xe I3 (Im P4) Ln stop) λr s4 ⟨hr,I4⟩=>?_);subst hr;exact wpAny_execs_nil ⟨σ3,H3,I4,qn⟩
 ·refine wpAny_passesOwn hp (cb (T.item X rfl rfl rfl hc i ac s3 σ3 H3 X.xe I3 (Im P4) Ln go) λr s4 ⟨u,hr,h4⟩=>?_);subst hr;refine wpAny_passesOwn hp (cb h4 λ_ s5 ⟨x,H5,I5,r5,y5,NU,NV⟩=>?_);have Rh:=I5.pinned (Im NV) (T.obj _ _ NU);refine wpAny_passesOwn hp (cb (hg _ s5 σ3 H5 x u _ Rh r5 (step x H5 y5)) λ_ s6 ⟨σ6,H6,I6,q6⟩=>?_);refine wpAny_passesOwn hp (cb (hb _ s6 σ6 H6 _ I6 q6) λf s7 q7=>?_);have again:∀ {σ7:St}{H7:Hp},Inv X (ac++lb fp s5.heap) σ7 H7 s7->N σ7 H7->∃m,m<n/\∃i σ' H',Inv X ac σ' H' s7/\tn i s7.heap/\(∀b∈fp,H' b=none)/\W i m σ' H':=λ{σ7 H7} I7 n7=>by
   obtain⟨m',hm,w7⟩:=hN σ7 H7 n7;refine⟨m',hm,i+1,σ7,H7,I7.unpinned,T.keep _ _ _ NU λb hb o e=>(I7.pin (b,o) (mY _ (mY _ (hZ hb e)))).1,λb hb=>?_,w7⟩;obtain⟨o,e,d⟩:=T.obj _ _ NU b hb;exact(I7.pin (b,o) (mY _ (mY _ (hZ hb e)))).2.1
  cases f with
  |next=>obtain⟨σ7,H7,I7,n7⟩:=q7;exact again I7 n7
  |cont=>obtain⟨σ7,H7,I7,n7⟩:=q7;exact again I7 n7
  |brk=>obtain⟨σ7,H7,I7,q7⟩:=q7;exact⟨σ7,H7,I7.unpinned,q7⟩
  |ret v=>obtain⟨x7,σ7,H7,I7,r7,q7⟩:=q7;exact⟨x7,σ7,H7,I7.unpinned,r7,q7⟩
end
abbrev R2:=V->V->Hp->VK->Prop
def cA (X:Cx)(f:Value->Value->Sem Value)(r:R2):Prop :=
 ∀(ac:List (Addr×Obj))(s:Shared)(σ:St)(H:Hp)(x y:V)(v u:Value)(Q:VK),Inv X ac σ H s->aL x v->aL y u->r x y H Q ->
  wq X (f v u) (EP X ac σ Q) X.xe s
def Jy (X:Cx)(f:Value->Sem Value)(r:V->Hp->VK->Prop):Prop :=
 ∀(ac:List (Addr×Obj))(s:Shared)(σ:St)(H:Hp)(x:V)(v:Value)(Q:VK),Inv X ac σ H s->aL x v->r x H Q ->
  wq X (f v) (EP X ac σ Q) X.xe s
def bN (X:Cx)(f:Value)(r:List V->Hp->VK->Prop):Prop :=
 ∀(ac:List (Addr×Obj))(s:Shared)(σ:St)(H:Hp)(xs:List V)(us:List Value)(Q:VK),Inv X ac σ H s->aS xs us->r xs H Q ->
  wq X (call f us) (EP X ac σ Q) X.xe s
def Jz (r:R2)(ta tb:TE):TE:=λσ H Q=>ta σ H λx H1=>tb σ H1 λy H2=>r x y H2 Q
def Q2 (r:V->Hp->VK->Prop)(ta:TE):TE:=λσ H Q=>ta σ H λx H1=>r x H1 Q
def rI (C:Int->Int->Prop)(g:Int->Int->V):R2:=λx y H Q=>∃i j,x=.int i/\y=.int j/\C i j/\Q (g i j) H
def zL (g:Int->Int->V):R2:=λx y H Q=>∃i j,x=.int i/\y=.int j/\Q (g i j) H
def rU (g:Int->V):V->Hp->VK->Prop:=λx H Q=>∃i,x=.int i/\Q (g i) H
section
variable {X:Cx}{a b c:Expr}{ta tb tc:TE}{pos:Pos}
theorem Gv (ha:PE X a ta)(hb:PE X b tb){ac:List (Addr×Obj)}{s:Shared}{σ:St}{H:Hp}{R:V->V->Hp->Prop}(I:Inv X ac σ H s)
  (h:ta σ H λx H1=>tb σ H1 λy H2=>R x y H2) {Q:Value->Shared->Prop}{f:Value->Value->Sem Value}
  (hf:∀v u s2 x y H2,Inv X ac σ H2 s2->aL x v->aL y u->R x y H2->wq X (f v u) Q X.xe s2):
  wq X (eval a X.env) (λv s₁=>wq X (eval b X.env) (λu s₂=>wq X (f v u) Q X.xe s₂) X.xe s₁) X.xe s:=by
 refine cb (ha ac s σ H _ I h) λv s1 ⟨x,H1,I1,r1,q1⟩=>?_;refine cb (hb ac s1 σ H1 _ I1 q1) λu s2 ⟨y,H2,I2,r2,q2⟩=>?_;exact hf v u s2 x y H2 I2 r1 r2 q2
theorem zM {op:Operator}{r:R2}(ho:cA X (binaryOp op) r)(ha:PE X a ta)(hb:PE X b tb):PE X (.BinOp a op b pos) (Jz r ta tb):=by
 intro ac s σ H Q I h;exact wpAny_BinOp (Gv ha hb I h λv u s2 x y H2 I2 rx ry q=>ho ac s2 σ H2 x y v u Q I2 rx ry q)
theorem J0 {op:UnaryOp}{r:V->Hp->VK->Prop}(ho:Jy X (unaryOp op) r)(ha:PE X a ta):PE X (.UnaryOp op a pos) (Q2 r ta):=by
 intro ac s σ H Q I h;exact UnaryOp_ (cb (ha ac s σ H _ I h) λv s1 ⟨x,H1,I1,r1,q1⟩=>ho ac s1 σ H1 x v Q I1 r1 q1)
theorem Gw {f:Value->Value->Sem Value}{C:Int->Int->Prop}{g:Int->Int->Int}
  (rule:∀(i j:Int)(t u:Tok)(s:Shared)(Q:Value->Shared->Prop)(E:Value->Shared->Prop),C i j->Q (.int (g i j) s.toks) { s with toks:=s.toks+1 }->wq X (f (.int i t) (.int j u)) Q E s):
  cA X f (rI C λi j=>.int (g i j)):=by
 intro ac s σ H x y v u Q I rx ry h;obtain⟨i,j,rfl,rfl,hc,q⟩:=h;obtain⟨t,rfl⟩:=rx;obtain⟨t',rfl⟩:=ry;exact rule i j t t' s _ _ hc ⟨.int (g i j),H,I.tok _,⟨_,rfl⟩,q⟩
theorem C7 {f:Value->Value->Sem Value}{g:Int->Int->Int}
  (rule:∀(i j:Int)(t u:Tok)(s:Shared)(Q:Value->Shared->Prop)(E:Value->Shared->Prop),Q (.int (g i j) s.toks) { s with toks:=s.toks+1 }->wq X (f (.int i t) (.int j u)) Q E s):
  cA X f (zL λi j=>.int (g i j)):=by
 intro ac s σ H x y v u Q I rx ry h;obtain⟨i,j,rfl,rfl,q⟩:=h;obtain⟨t,rfl⟩:=rx;obtain⟨t',rfl⟩:=ry;exact rule i j t t' s _ _ ⟨.int (g i j),H,I.tok _,⟨_,rfl⟩,q⟩
theorem C8 {f:Value->Value->Sem Value}{g:Int->Int->Bool}
  (rule:∀(i j:Int)(t u:Tok)(s:Shared)(Q:Value->Shared->Prop)(E:Value->Shared->Prop),Q (.bool (g i j)) s->wq X (f (.int i t) (.int j u)) Q E s):
  cA X f (zL λi j=>.bl (g i j)):=by
 intro ac s σ H x y v u Q I rx ry h;obtain⟨i,j,rfl,rfl,q⟩:=h;obtain⟨t,rfl⟩:=rx;obtain⟨t',rfl⟩:=ry;exact rule i j t t' s _ _ ⟨.bl (g i j),H,I,rfl,q⟩
def J6 (i j:Int):Prop:=0<j/\j<1073741824
def C9 (i j:Int):Prop:=0<=j/\j<=1000000/\i.natAbs<2 ^ 64
def CA (i j:Int):Prop:=(-(2 ^ 64)<i/\i<2 ^ 64)∨(-(2 ^ 64)<j/\j<2 ^ 64)
theorem CA.ok (h:CA i j):IntMulOk i j:=by
 rcases h with⟨h1,h2⟩|⟨h1,h2⟩
 ·exact .of_left (intBits_le_64 h1 h2)
 ·exact .of_right (intBits_le_64 h1 h2)
theorem uh (k:Nat):(0:Int)<=2 ^ k:=by
 rw[two_pow_cast];exact Int.natCast_nonneg _
theorem Gx:cA X (binaryOp .Add) (zL λi j=>.int (i+j)):=C7 λ_ _ _ _ _ _ _ q=>add_int q
theorem Gy:cA X (binaryOp .Sub) (zL λi j=>.int (i - j)):=C7 λ_ _ _ _ _ _ _ q=>sub_int q
theorem Gz:cA X (binaryOp .Mult) (rI CA λi j=>.int (i*j)):=Gw λ_ _ _ _ _ _ _ hc q=>mul_int q hc.ok
theorem CB:cA X (binaryOp .FloorDiv) (rI J6 λi j=>.int (i / j)):=Gw λi j _ _ _ _ _ hc q=>by
 have h1:(0:Int)<j:=hc.1;have h2:j<1073741824:=hc.2;exact floordiv_int (by omega) (by rw[Int.fdiv_eq_ediv_of_nonneg i (by omega)];exact q) (.inl (PyProof.noPylong_small (by omega)))
theorem G0:cA X (binaryOp .Mod) (rI (λ_ j=>0<j) λi j=>.int (i % j)):=Gw λi j _ _ _ _ _ hc q=>by
 have h1:(0:Int)<j:=hc;exact mod_int' (by omega) (by rw[Int.fmod_eq_emod_of_nonneg i (by omega)];exact q)
theorem G1:cA X (binaryOp .Pow) (rI C9 λi j=>.int (i ^ j.toNat)):=Gw λ_ _ _ _ _ _ _ hc q=>pow_int_small hc.1 hc.2.1 hc.2.2 q
theorem G2:cA X (binaryOp .LShift) (rI C9 λi j=>.int (i*2 ^ j.toNat)):=Gw λ_ _ _ _ _ _ _ hc q=>lshift_int_small hc.1 hc.2.1 hc.2.2 q
theorem G3:cA X (binaryOp .RShift) (rI (λ_ j=>0<=j) λi j=>.int (i / 2 ^ j.toNat)):=Gw λi j _ _ _ _ _ hc q=>
 rshift_int hc (by rw[Int.fdiv_eq_ediv_of_nonneg i (uh _)];exact q)
theorem G4:cA X (binaryOp .BitAnd) (zL λi j=>.int (Builtin.bitAnd i j)):=C7 λ_ _ _ _ _ _ _ q=>and_int q
theorem J7:cA X (binaryOp .BitOr) (zL λi j=>.int (Builtin.bitOr i j)):=C7 λ_ _ _ _ _ _ _ q=>or_int q
theorem Q3 {f:Value->Sem Value}{g:Int->Int}
  (rule:∀(i:Int)(t:Tok)(s:Shared)(Q:Value->Shared->Prop)(E:Value->Shared->Prop),Q (.int (g i) s.toks) { s with toks:=s.toks+1 }->wq X (f (.int i t)) Q E s):
  Jy X f (rU λi=>.int (g i)):=by
 intro ac s σ H x v Q I rx h;obtain⟨i,rfl,q⟩:=h;obtain⟨t,rfl⟩:=rx;exact rule i t s _ _ ⟨.int (g i),H,I.tok _,⟨_,rfl⟩,q⟩
theorem G5:Jy X (unaryOp .USub) (rU λi=>.int (-i)):=Q3 λ_ _ _ _ _ q=>neg_int q
theorem ym:cA X (binaryOp .Add) (λx y H Q=>∃i k,x=.int i/\y=.bl k/\Q (.int (i+b2i k)) H):=by
 intro ac s σ H x y v u Q I rx ry h;obtain⟨i,k,rfl,rfl,q⟩:=h;obtain⟨t,rfl⟩:=rx;cases ry
 exact add_int_bool ⟨.int (i+b2i k),H,I.tok _,⟨_,rfl⟩,q⟩
end
section
variable {X:Cx}{a b c:Expr}{ta tb tc:TE}{pos:Pos}
theorem J8:cA X (compareOp .Lt) (zL λi j=>.bl (decide (i<j))):=C8 λ_ _ _ _ _ _ _ q=>lt_int q
theorem J9:cA X (compareOp .LtE) (zL λi j=>.bl (decide (i<=j))):=C8 λ_ _ _ _ _ _ _ q=>le_int q
theorem JB:cA X (compareOp .Gt) (zL λi j=>.bl (decide (j<i))):=C8 λ_ _ _ _ _ _ _ q=>gt_int q
theorem JD:cA X (compareOp .GtE) (zL λi j=>.bl (decide (j<=i))):=C8 λ_ _ _ _ _ _ _ q=>ge_int q
theorem cA.or (h:cA X f r)(h':cA X f r'):cA X f (λx y H Q=>r x y H Q∨r' x y H Q):=by
 intro ac s σ H x y v u Q I rx ry q;rcases q with q|q
 ·exact h ac s σ H x y v u Q I rx ry q
 ·exact h' ac s σ H x y v u Q I rx ry q
theorem MS (b:Expr)(h:op≠.In:=by decide)(h2:op≠.NotIn:=by decide):behindInMarks op b=false:=by
 have e1:(op == CmpOp.In)=false:=by cases op<;>first|rfl|exact absurd rfl h
 have e2:(op == CmpOp.NotIn)=false:=by cases op<;>first|rfl|exact absurd rfl h2
 cases b<;>simp[behindInMarks,e1,e2]
theorem CC (ho:cA X (compareOp op) r)(ha:PE X a ta)(hb:PE X b tb)(hm:behindInMarks op b=false):PE X (.Compare a [op] [b] pos) (Jz r ta tb):=by
 intro ac s σ H Q I h;exact wpAny_Compare1 (Gv ha hb I h λv u s2 x y H2 I2 rx ry q=>ho ac s2 σ H2 x y v u Q I2 rx ry q) hm
def EM (t:TE):TT:=λσ H Q=>t σ H λx H'=>∃k,x=.bl k/\Q k H'
theorem w9 {op:CmpOp}{r:R2}(ho:cA X (compareOp op) r)(ha:PE X a ta)(hb:PE X b tb)(hm:behindInMarks op b=false):PT X (.Compare a [op] [b] pos) (EM (Jz r ta tb)):=by
 intro ac s σ H Q I h;refine wpAny_isTrue_Compare1 (cb (ha ac s σ H _ I h) λv s1 ⟨x,H1,I1,r1,q1⟩=>cb (hb ac s1 σ H1 _ I1 q1) λu s2 ⟨y,H2,I2,r2,q2⟩=>
  cb (ho ac s2 σ H2 x y v u _ I2 r1 r2 q2) λc s3 ⟨z,H3,I3,r3,k,e,q3⟩=>?_) hm
 subst e;cases r3
 exact wpAny_truthy_bool ⟨H3,I3,q3⟩
def ui (r r':R2)(ta tb tc:TE):TE:=λσ H Q=>ta σ H λx H1=>tb σ H1 λy H2=>r x y H2 λz H3=>∃k,z=.bl k /\
 (if k=true then tc σ H3 λw' H4=>r' y w' H4 Q else Q (.bl false) H3)
theorem zN {op zv:CmpOp}{r r':R2}(ho:cA X (compareOp op) r)(rj:cA X (compareOp zv) r')(ha:PE X a ta)(hb:PE X b tb)(hc:PE X c tc)
  (hm:lastMarks [op,zv] [b,c]=false:=by with_unfolding_all rfl):PE X (.Compare a [op,zv] [b,c] pos) (ui r r' ta tb tc):=by
 intro ac s σ H Q I h;refine Compare_chain (cb (ha ac s σ H _ I h) λv s1 ⟨x,H1,I1,r1,q1⟩=>chain_link (cb (hb ac s1 σ H1 _ I1 q1) λu s2 ⟨y,H2,I2,r2,q2⟩=>
  cb (ho ac s2 σ H2 x y v u _ I2 r1 r2 q2) λd s3 ⟨z,H3,I3,r3,k,e,q3⟩=>?_)) hm
 subst e;cases r3
 refine wpAny_truthy_bool ?_;cases k with
 |false=>exact ite_ff ⟨.bl false,H3,I3,rfl,q3⟩
 |true=>exact ite_tt (chain_last (cb (hc ac s3 σ H3 _ I3 q3) λw' s4 ⟨z',H4,I4,r4,q4⟩=>rj ac s4 σ H4 y z' u w' Q I4 r2 r4 q4))
theorem zO {op zv:CmpOp}{r r':R2}(ho:cA X (compareOp op) r)(rj:cA X (compareOp zv) r')(ha:PE X a ta)(hb:PE X b tb)(hc:PE X c tc)
  (hm:lastMarks [op,zv] [b,c]=false:=by with_unfolding_all rfl):PT X (.Compare a [op,zv] [b,c] pos) (EM (ui r r' ta tb tc)):=by
 intro ac s σ H Q I h;refine isTrue_chain (cb (ha ac s σ H _ I h) λv s1 ⟨x,H1,I1,r1,q1⟩=>test_link (cb (hb ac s1 σ H1 _ I1 q1) λu s2 ⟨y,H2,I2,r2,q2⟩=>
  cb (ho ac s2 σ H2 x y v u _ I2 r1 r2 q2) λd s3 ⟨z,H3,I3,r3,k,e,q3⟩=>?_)) hm
 subst e;cases r3
 refine wpAny_truthy_bool ?_;cases k with
 |false=>
  obtain⟨k',e',q'⟩:=q3;cases e'
  exact ite_ff ⟨H3,I3,q'⟩
 |true=>
  refine ite_tt (test_last (cb (hc ac s3 σ H3 _ I3 q3) λw' s4 ⟨z',H4,I4,r4,q4⟩=>cb (rj ac s4 σ H4 y z' u w' _ I4 r2 r4 q4) λd' s5 ⟨z2,H5,I5,r5,k2,e2,q5⟩=>?_));subst e2;cases r5
  exact wpAny_truthy_bool ⟨H5,I5,q5⟩
theorem le:(sizeLine:Nat)<2 ^ 63:=by rw[sizeLine_eq];decide
theorem uj:cA X (binaryOp .Add) (λx y H Q=>∃i j,x=.str i/\y=.str j/\i.length+j.length<=sizeLine/\Q (.str (i++j)) H):=by
 intro ac s σ H x y v u Q I rx ry h;obtain⟨i,j,rfl,rfl,hz,q⟩:=h;obtain⟨t,rfl⟩:=rx;obtain⟨t',rfl⟩:=ry;exact add_str (λt' tk=>⟨.str (i++j),H,I.tok _,⟨_,rfl⟩,q⟩) hz
theorem gu (r:aS [x] us):∃u,us=[u]/\aL x u:=by
 cases r with
 |cons r1 r2=>cases r2;exact⟨_,rfl,r1⟩
theorem EN (r:aS [x,y] us):∃u w',us=[u,w']/\aL x u/\aL y w':=by
 cases r with
 |cons r1 r2=>
  cases r2 with
  |cons r3 r4=>cases r4;exact⟨_,_,rfl,r1,r3⟩
theorem yn:bN X (.type "int") (λxs H Q=>(∃i,xs=[.int i]/\Q (.int i) H)∨∃k,xs=[.bl k]/\Q (.int (if k then 1 else 0)) H):=by
 intro ac s σ H xs us Q I r h;rcases h with⟨i,rfl,q⟩|⟨k,rfl,q⟩
 ·obtain⟨u,rfl,t,rfl⟩:=gu r;exact call_int_int ⟨.int i,H,I,⟨_,rfl⟩,q⟩
 ·obtain⟨u,rfl,r1⟩:=gu r;cases r1
  exact call_int_bool ⟨.int (if k then 1 else 0),H,I.tok _,⟨_,rfl⟩,q⟩
end
structure E5 (h:Heap)(x dx C:Addr)(mA:Str->Option Value):Prop where
 obj:h.get? x=some (PySem.W.instObj C dx)
 ns:h.Ns1 dx mA
 ne:dx≠x
theorem oK {h:Heap}{dx:Addr}{mA:Str->Option Value}(n:h.Ns1 dx mA):∃od,h.get? dx=some od/\∀name,PySem.W.lookIn name od=some (mA name):=by
 obtain⟨o,es,ep,ho,hd,hk,_,hm⟩:=n;refine⟨o,ho,λname=>?_⟩;have e:=hm name;unfold nsFind findBy at e;rw[←Array.find?_toList]at e;unfold PySem.W.lookIn;rw[hd];dsimp only;split
 ·rename_i y q;rw[q]at e;exact congrArg some e
 ·rename_i q;rw[q]at e;have a:es.toList.any (·.refKey)=false:=by
   rw[List.any_eq_false];intro y hy;obtain⟨z,t,E6⟩:=hk y (Array.mem_toList_iff.mp hy);simp[DictEntry.refKey,E6]
  have a':¬es.toList.any (·.refKey)=true:=by rw[a];exact uY
  rw[if_neg a'];exact congrArg some e
theorem E5.look (I:E5 h x dx C mA):∃od,PySem.W.InstAt h x (PySem.W.instObj C dx) C (some od)/\∀name,PySem.W.lookIn name od=some (mA name) :=
 let ⟨od,ho,hl⟩:=oK I.ns
 ⟨od,⟨I.obj,rfl,rfl,ho⟩,hl⟩
section
variable {prog:Program}{w:World}{A:Around}{E:Value->Shared->Prop}{s:Shared}{K:Frag}{x dx C f:Addr}{mA:Str->Option Value}{name:Str}{v:Value}
theorem zP (X:K.In s.heap)(I:E5 s.heap x dx C mA)(hg:PySem.W.plainGet K C name=true)
  (hf:PySem.W.findIn K (.ref C) name=some (some (.ref f))) (ht:PySem.W.isFn K (.ref f)=true) (hv:mA name=none) (h:Q (.ref f,[.ref x]) s):
  wpAny (model prog w) A (getMethod (.ref x) name pl) Q E s:=by
 obtain⟨od,J,hl⟩:=I.look;exact PySem.W.method_fn X J (PySem.W.plainGet_of hg).1 (PySem.W.plainGet_of hg).2 hf (beq_iff_eq.mp ht) (by show(PySem.W.lookIn name od).map (·.isSome)=some false;rw[hl,hv];rfl) h
theorem JF (X:K.In s.heap)(hm:PySem.W.makesIn K C=true)
  (hi:PySem.W.findIn K (.ref C) "__init__" = some (some (.ref f))) (hf:PySem.W.typeIn K (.ref f)=some (.type "function"))
  (h:codeAny (model prog w) (A.under (.builtin "type.__call__" ⟨.ref C::vs,kw⟩)) (.call (.ref f) ⟨.ref (s.heap.objs.size+1)::vs,kw⟩) (PySem.W.InitBack (s.heap.objs.size+1) R)
   { s with heap:=(s.heap.push PySem.W.emptyDict).push (PySem.W.instObj C s.heap.objs.size) }):
  codeAny (model prog w) A (.call (.ref C) ⟨vs,kw⟩) R s:=by
 obtain⟨hh,g,d,t,os⟩:=s;exact PySem.W.make_core (PySem.W.makes_of X hm) (PySem.W.looks_findIn X hi) (λself=>PySem.W.bind_fn X self hf) (.inl rfl) h
end
theorem ou.none_of (r:ou none o):o=none:=by
 cases o with
 |none=>rfl
 |some u=>exact(show False from r).elim
section
variable {P:Program}{w:World}{H H':Hp}{h h':Heap}{a C dx:Addr}{fs Rg:List (Str×V)}
theorem wA (hok:lC P w H h)(e:H a=some (.ins C dx fs)):∃mA,E5 h a dx C mA/\(∀f,ou (fs.lookup f) (mA f))/\PySem.Within mA (fs.map (·.1))/\fs.length<=1000/\H dx=some (.own a):=by
 obtain⟨d,z,ne,ob,mA,n,r,q⟩:=(show bF P w H h a (.ins C dx fs)from hok a _ e);exact⟨mA,⟨ob,n,ne⟩,r,q,z,d⟩
end
structure Cls (K:Frag)(C:Addr):Prop where
 pg:PySem.W.plainGet K C Str.empty=true
 hd:PySem.W.hasDictIn K C=true
 po:PySem.W.plainOver K C=true
 sa:PySem.W.findIn K (.ref C) "__setattr__" = some (some (.builtin "object.__setattr__"))
theorem Cls.get {K:Frag}{C:Addr}(c:Cls K C)(f:Str):PySem.W.plainGet K C f=true:=c.pg
def G6 (K:Frag)(C:Addr)(f:Str):Prop:=PySem.W.findIn K (.ref C) f=some none
structure Meth (K:Frag)(C:Addr)(m:Str)(f:Addr):Prop where
 at_:PySem.W.findIn K (.ref C) m=some (some (.ref f))
 fn:PySem.W.isFn K (.ref f)=true
 kp:PySem.W.keepIn K (.ref f)=true
section
variable {X:Cx}{ac:List (Addr×Obj)}{σ:St}{H:Hp}{s:Shared}{a C dx:Addr}{fs:List (Str×V)}{f:Str}{v:V}{A:Around}{E:Value->Shared->Prop}
theorem uk {m:Str}{g:Addr}{pl:Sem Bool}{Q:Value×List Value->Shared->Prop}(I:Inv X ac σ H s)(e:H a=some (.ins C dx fs))(c:Cls X.K C)(k:Meth X.K C m g)(l:fs.lookup m=none)
  (h:Q (.ref g,[.ref a]) s):wpAny (model X.prog X.w) A (getMethod (.ref a) m pl) Q E s:=by
 obtain⟨mA,O,r,_,_,_⟩:=wA I.hok e;have hn:mA m=none:=ou.none_of (by rw[←l];exact r m);exact zP I.kIn O (c.get m) k.at_ k.fn hn h
theorem Inv.made (I:Inv X ac σ H s):Inv X ac σ (upd (upd H s.heap.objs.size (.own (s.heap.objs.size+1))) (s.heap.objs.size+1) (.ins C s.heap.objs.size []))
  { s with heap:=(s.heap.push PySem.W.emptyDict).push (PySem.W.instObj C s.heap.objs.size) }:=by
 have e1:(s.heap.push PySem.W.emptyDict).get? s.heap.objs.size=some PySem.W.emptyDict:=vY s.heap rfl;have e2:((s.heap.push PySem.W.emptyDict).push (PySem.W.instObj C s.heap.objs.size)).get? (s.heap.objs.size+1)=some (PySem.W.instObj C s.heap.objs.size):=by
  have:=vY (s.heap.push PySem.W.emptyDict) (o:=PySem.W.instObj C s.heap.objs.size) rfl;rwa [Heap.size_push]at this
 have e3:(s.heap.push PySem.W.emptyDict).Ns s.heap.objs.size (λ_=>none):=⟨PySem.W.emptyDict,#[],_,e1,rfl,(λe he=>absurd he (by simp)),λ_=>rfl⟩;have I1:=I.laid (a:=s.heap.objs.size) (o:=.own (s.heap.objs.size+1)) (h':=s.heap.push PySem.W.emptyDict) (t':=s.toks) (λb u q=>vZ _ q) (vT _) ⟨_,e1⟩;refine I1.laid (a:=s.heap.objs.size+1) (o:=.ins C s.heap.objs.size []) (t':=s.toks) (λb u q=>vZ _ q) (Nat.le_of_eq (Heap.size_push _ _)) ?_;have ne:s.heap.objs.size≠s.heap.objs.size+1:=vS (Nat.lt_succ_self _);refine⟨by rw[aA ne,av],uM _,ne,e2,λ_=>none,(Heap.Ns1.of_empty e3).at λo q=>vZ _ q,λ_=>True.intro,λy hy=>absurd rfl hy⟩
theorem CD {prog:Program}{w:World}{env:Env}{e:Expr}{f:Str}{pos:Pos}{s:Shared}{Q:Value->Shared->Prop}(hb:attributeBase e f env (eval e env)=eval e env)
  (h:wpAny (model prog w) A (eval e env) (λo s₁=>wpAny (model prog w) A (getAttr o f true) Q E s₁) E s):wpAny (model prog w) A (eval (.Attribute e f pos) env) Q E s :=
 Attribute_any_ h (by rw[arm_eval_Attribute,hb])
end
def Q4 (K:Frag)(ta:TE)(f:Str):TE:=λσ H Q=>ta σ H λx H1=>∃a C dx fs v,x=.ref a/\H1 a=some (.ins C dx fs)/\Cls K C/\G6 K C f/\fs.lookup f=some v/\Q v H1
section
variable {X:Cx}{o e value:Expr}{f:Str}{pos zr Ri:Pos}{ta tv:TE}
theorem EO {pl:Sem Bool}{m:Str}{eW:Pos}{args:List Expr}{ac:List (Addr×Obj)}{s:Shared}{σ:St}{H:Hp}{Q:Value->Shared->Prop}{te:TE}(he:PE X e te)(I:Inv X ac σ H s)
  (h:te σ H λx H1=>∃a C dx fs g,x=.ref a/\H1 a=some (.ins C dx fs)/\Cls X.K C/\Meth X.K C m g/\fs.lookup m=none /\
   ∀s1,Inv X ac σ H1 s1->wq X (callWith pos (.ref g) [.ref a] (backTo pos (starEach args X.env)) (backToKw pos (keywordEach [] X.env))) Q X.xe s1)
  (ht:eval (.Call (.Attribute e m eW) args [] pos) X.env=(do
   let ov ←eval e X.env
   standAt eW.atName
   let (f,first) ←holding [ov] (getMethod ov m pl)
   callWith pos f first (backTo pos (starEach args X.env)) (backToKw pos (keywordEach [] X.env)))):
  wq X (eval (.Call (.Attribute e m eW) args [] pos) X.env) Q X.xe s:=by
 refine PySem.W.methodCall_KW (pl:=pl) (cb (he ac s σ H _ I h) λu s1 ⟨x,H1,I1,rx,a,C,dx,fs,g,ex,ea,c,k,l,q⟩=>?_) ht;subst ex;obtain rfl:u=Value.ref a:=rx;exact uk I1 ea c k l (q s1 I1)
end
section
variable {X:Cx}{ac:List (Addr×Obj)}{σ:St}{H:Hp}{s:Shared}{A:Around}{E:Value->Shared->Prop}{Q:Value->Shared->Prop}{c:Value}{b:Bool}
inductive TyOf (K:Frag)(H:Hp):V->Value->Prop where
 |non:TyOf K H .non (.type "NoneType")
 |bl (x:Bool):TyOf K H (.bl x) (.type "bool")
 |int (i:Int):TyOf K H (.int i) (.type "int")
 |str (x:Str):TyOf K H (.str x) (.type "str")
 |flt (x:UInt64):TyOf K H (.flt x) (.type "float")
 |lst {a:Addr}{xs:List V}(e:H a=some (.lst xs)):TyOf K H (.ref a) (.type "list")
 |frz {a:Addr}{o:Obj}{xs:List V}(e:H a=some (.frz o (.lst xs))):TyOf K H (.ref a) (.type "list")
 |tup {a:Addr}{xs:List V}(e:H a=some (.tup xs)):TyOf K H (.ref a) (.type "tuple")
 |dK {a:Addr}{bE:List (jY×V)}{ob:Obj}(e:H a=some (.dK bE ob)):TyOf K H (.ref a) (.type "dict")
 |dT {a:Addr}{bE:List (List jY×V)}(e:H a=some (.dT bE)):TyOf K H (.ref a) (.type "dict")
 |ins {a C dx:Addr}{fs:List (Str×V)}(e:H a=some (.ins C dx fs)) (cl:Cls K C) (ha:PySem.W.findIn K (.ref C) "__class__" = some (some (.builtin "object.__class__")))
   (hn:PySem.W.specialIn K (.builtin "object.__class__") "__get__" = some (some (.builtin "getset_descriptor.__get__"))) (Jc:PySem.W.takesIn K (.builtin "object.__class__")=some true)
   (hm:PySem.W.mroIn K C (.type "object")=some true):TyOf K H (.ref a) (.ref C)
theorem fJ (I:Inv X ac σ H s)(rx:aL x u)(ty:TyOf X.K H x t)(e:PySem.W.kitOne X.K t c=some b)(h:∀tk,Q (.bool b) { s with toks:=tk }):
  wpAny (model X.prog X.w) A (call (.builtin "isinstance") [u,c]) Q E s:=by
 cases ty with
 |non=>cases (show u=Value.none from rx);exact kia_one PySem.W.kitx_none I.kIn True.intro e (λz=>nomatch z) h
 |bl y=>cases (show u=Value.bool y from rx);exact kia_one PySem.W.kitx_bool I.kIn True.intro e (λz=>nomatch z) h
 |int i=>obtain⟨t,q⟩:=(show ∃t,u=Value.int i t from rx);cases q;exact kia_one PySem.W.kitx_int I.kIn True.intro e (λz=>nomatch z) h
 |str y=>obtain⟨t,q⟩:=(show ∃t,u=Value.str y t from rx);cases q;exact kia_one PySem.W.kitx_str I.kIn True.intro e (λz=>nomatch z) h
 |flt y=>obtain⟨t,q⟩:=(show ∃t,u=Value.float y t from rx);cases q;exact kia_one PySem.W.kitx_float I.kIn True.intro e (λz=>nomatch z) h
 |@lst a xs ea=>
  cases (show u=Value.ref a from rx)
  obtain⟨_,_,n,_,h1⟩:=(show bF X.prog X.w H s.heap a (.lst xs)from I.hok a _ ea);exact kia_one PySem.W.kitx_list I.kIn ⟨_,h1,rfl⟩ e (λz=>nomatch z) h
 |@frz a ob xs ea=>
  cases (show u=Value.ref a from rx)
  obtain⟨_,_,_,n,_,h1⟩:=(show bF X.prog X.w H s.heap a (.frz ob (.lst xs))from I.hok a _ ea);exact kia_one PySem.W.kitx_list I.kIn ⟨_,h1,rfl⟩ e (λz=>nomatch z) h
 |@tup a xs ea=>
  cases (show u=Value.ref a from rx)
  obtain⟨_,_,_,p⟩:=(show bF X.prog X.w H s.heap a (.tup xs)from I.hok a _ ea);obtain⟨o,h1,h2,_⟩:=p;exact kia_one PySem.W.kitx_tuple I.kIn ⟨o,h1,h2⟩ e (λz=>nomatch z) h
 |@dK a bE ob ea=>
  cases (show u=Value.ref a from rx)
  obtain⟨_,_,_,vs,_,p⟩:=(show bF X.prog X.w H s.heap a (.dK bE ob)from I.hok a _ ea);obtain⟨o,es,ep,h1,h2,_⟩:=p;exact kia_one PySem.W.kitx_dict I.kIn ⟨o,h1,h2.1⟩ e (λz=>nomatch z) h
 |@dT a bE ea=>
  cases (show u=Value.ref a from rx)
  obtain⟨_,_,xs,_,o,es,ep,h1,h2,_⟩:=(show bF X.prog X.w H s.heap a (.dT bE)from I.hok a _ ea);exact kia_one PySem.W.kitx_dict I.kIn ⟨o,h1,h2.1⟩ e (λz=>nomatch z) h
 |@ins a C dx fs ea cl ha hn Jc hm=>
  cases (show u=Value.ref a from rx)
  obtain⟨mA,O,_⟩:=wA I.hok ea;obtain⟨od,J,_⟩:=O.look;exact kia_one (PySem.W.kitx_own (cl.get _) cl.hd ha hn Jc hm) I.kIn J e (λz=>nomatch z) h
end
structure cC (k:Nat)(A:Around):Prop where
 hd:A.handled=none
 dp:A.depth+3*k+5<recursionLimit
 un:A.units+16*k+200<cLine
theorem cC.mono (r:cC k A)(h:j<=k):cC j A:=⟨r.hd,by have:=r.dp;omega,by have:=r.un;omega⟩
theorem cC.deeper (r:cC (k+1) A)(env:Env):cC k (A.deeper env) :=
 ⟨r.hd,by have:=r.dp;show A.depth+1+3*k+5<_;omega,by have:=r.un;show A.units+3+16*k+200<_;omega⟩
theorem ul {A:Around}{C:Addr}{us:List Value}{kw:List (Str×Value)}:(A.under (.builtin "type.__call__" ⟨.ref C::us,kw⟩)).depth=A.depth+1:=by
 first|rfl|simp[Around.under,Code.weight,Code.isCreation,Code.isGuard,Code.isCaller,Code.frames,Code.isFrame,guardIds]
theorem um {A:Around}{C:Addr}{us:List Value}{kw:List (Str×Value)}:(A.under (.builtin "type.__call__" ⟨.ref C::us,kw⟩)).units=A.units+1:=by
 first|rfl|simp[Around.under,Code.cUnits,Code.frames,Code.isFrame]
theorem cC.make (r:cC (k+1) A)(C:Addr)(us:List Value)(kw:List (Str×Value)):cC k (A.under (.builtin "type.__call__" ⟨.ref C::us,kw⟩)) :=
 ⟨r.hd,by have:=r.dp;rw[ul];omega,by have:=r.un;rw[um];omega⟩
theorem cC.depth (r:cC k A):A.depth<recursionLimit:=by have:=r.dp;omega
def r6:TA:=λ_ H Q=>Q [] H
def iK (ta:TE)(tr:TA):TA:=λσ H Q=>ta σ H λx H1=>tr σ H1 λxs H2=>Q (x::xs) H2
section
variable {X:Cx}{e:Expr}{es:List Expr}{te:TE}{t:TA}{pos:Pos}
theorem dq:PA X [] r6:=λ_ _ _ _ H Q I h=>Calls.spliced_nil ⟨[],H,I,.nil,h⟩
theorem bI (ha:PE X e te)(hr:PA X es t)(hs:starEach (e::es) X.env=(false,eval e X.env)::starEach es X.env:=by rfl):PA X (e::es) (iK te t):=by
 intro pos ac s σ H Q I h;rw[hs];show wpAny _ _ (spliced ((false,eval e X.env)::backTo pos (starEach es X.env))) _ _ s;refine Calls.spliced_cons (cb (ha ac s σ H _ I h) λu s1 ⟨x,H1,I1,r1,q1⟩=>?_);exact cb (hr pos ac s1 σ H1 _ I1 q1) λus s2 ⟨xs,H2,I2,r2,q2⟩=>⟨x::xs,H2,I2,.cons r1 r2,q2⟩
def JG (t:TA):TE:=λσ H Q=>t σ H λxs H1=>xs.length<=sizeLine/\∀p,H1 p=none->Q (.ref p) (upd H1 p (.tup xs))
def G7 (t:TA):TE:=λσ H Q=>t σ H λxs H1=>xs.length<=sizeLine/\∀p,H1 p=none->Q (.ref p) (upd H1 p (.lst xs))
theorem zQ {x1}(h:PA X es t):PE X (.Tuple es x1 pos) (JG t):=by
 intro ac s σ H Q I hq;refine wpAny_Tuple_spliced (cb (h pos ac s σ H _ I hq) λus s1 ⟨xs,H1,I1,r,z,q⟩=>⟨by rw[←r.length];exact z,?_⟩);have hf:H1 s1.heap.objs.size=none:=I1.hok.fresh (vT _);refine⟨.ref s1.heap.objs.size,upd H1 s1.heap.objs.size (.tup xs),I1.laid (t':=s1.toks) (λb u e=>vZ _ e) (vT _) ?_,rfl,q _ hf⟩;exact⟨z,us,r,⟨_,vY _ rfl,rfl,_,rfl⟩⟩
theorem uo (h:PA X es t):PE X (.List es pos) (G7 t):=by
 intro ac s σ H Q I hq;refine wpAny_List_spliced (cb (h pos ac s σ H _ I hq) λus s1 ⟨xs,H1,I1,r,z,q⟩=>⟨by rw[←r.length];exact z,?_⟩);have hf:H1 s1.heap.objs.size=none:=I1.hok.fresh (vT _);refine⟨.ref s1.heap.objs.size,upd H1 s1.heap.objs.size (.lst xs),I1.laid (t':=s1.toks) (λb u e=>vZ _ e) (vT _) ?_,rfl,q _ hf⟩;exact⟨z,us,0,r,vY _ rfl⟩
end
abbrev Sp:=List V->Hp->VK->XK->Prop
abbrev Cn:=List Env->Hp->Shared->XK->Value->Shared->Prop
structure Env0 (P:Program)(w:World)(K:Frag)(mg:Str->Option Value)(base:Heap)(A:Around)(outer:List Env)(s:Shared)(H:Hp):Prop where
 frames:A.frames=some outer
 mod:Mod K mg base
 bs:∀b o,base.get? b=some o->s.heap.get? b=some o/\H b=none
 bsz:base.objs.size<=s.heap.objs.size
 funs:s.heap.FunFrames base outer
 frf:∀b∈kZ outer,H b=none
 hok:lC P w H s.heap
 bare:AllBare s.gens
def CE (outer:List Env)(P:Program)(w:World)(H:Hp)(s:Shared)(Q:VK)(u:Value)(s':Shared):Prop :=
 ∃v H',s'.os=s.os/\AllBare s'.gens/\Un (kZ outer) [] H H' s.heap s'.heap/\lC P w H' s'.heap/\aL v u/\Q v H'
def CR (CX:Cn)(outer:List Env)(P:Program)(w:World)(H:Hp)(s:Shared)(Q:VK)(E:XK)(r:Result)(s':Shared):Prop :=
 match r with
 |.ok (.ret u)=>CE outer P w H s Q u s'
 |.ok _=>False
 |.error e=>CX outer H s E e s'
structure fH (P:Program)(w:World)(K:Frag)(mg:Str->Option Value)(base:Heap)(CX:Cn)(k:Nat)(f:Addr)(fd:FuncData)(ps:List Str)(sp:Sp):Prop where
 len:∀vs H Q E,sp vs H Q E->vs.length=ps.length
 run:∀(A:Around)(outer:List Env)(s:Shared)(H:Hp)(args:Args)(us:List Value)(vs:List V)(Q:VK)(E:XK),cC k A->Env0 P w K mg base A outer s H->BindsTo s fd args (ps.zip us)->aS vs us->sp vs H Q E ->
  codeAny (model P w) A (.call (.ref f) args) (CR CX outer P w H s Q E) s
theorem fH.imp {P:Program}{w:World}{K:Frag}{mg:Str->Option Value}{base:Heap}{CX:Cn}{k:Nat}{f:Addr}{fd:FuncData}{ps:List Str}{sp P5:Sp}(F:fH P w K mg base CX k f fd ps sp)
  (h:∀vs H Q E,P5 vs H Q E->sp vs H Q E):fH P w K mg base CX k f fd ps P5 :=
 ⟨λvs H Q E q=>F.len vs H Q E (h _ _ _ _ q),λA outer s H args us vs Q E hr he hb hv hs=>F.run A outer s H args us vs Q E hr he hb hv (h _ _ _ _ hs)⟩
theorem Env0.make {P:Program}{w:World}{K:Frag}{mg:Str->Option Value}{base:Heap}{A:Around}{outer:List Env}{s:Shared}{H:Hp}(e:Env0 P w K mg base A outer s H)(C:Addr)(us:List Value)(kw:List (Str×Value)):
  Env0 P w K mg base (A.under (.builtin "type.__call__" ⟨.ref C::us,kw⟩)) outer s H:=⟨by first|exact e.frames|(simpa [Around.under,Code.envs,Code.isFrame,pushEnvs]using e.frames),e.mod,e.bs,e.bsz,e.funs,e.frf,e.hok,e.bare⟩
section
variable {X:Cx}{ac:List (Addr×Obj)}{σ:St}{H:Hp}{s s':Shared}
theorem Inv.env0 (I:Inv X ac σ H s):Env0 X.prog X.w X.K X.mg X.base X.A X.stack s H :=
 ⟨I.ok.frames,I.ok.mod,I.bs,vR I.ok.bsz I.sz,I.stack,I.stkFree,I.hok,I.bare⟩
theorem Inv.after (I:Inv X ac σ H s)(h:CE X.stack X.prog X.w H s Q u s'):EP X ac σ Q u s':=by
 obtain⟨v,H',os,bare,un,hok,r,q⟩:=h;obtain⟨hh,g,d,t,NW⟩:=s';obtain rfl:NW=s.os:=os;exact⟨v,H',I.call (h':=hh) (g':=g) (d':=d) (t':=t) (ch:=[]) un hok bare (λb z=>absurd z (by simp)),r,q⟩
end
def EQ (sp:Sp)(xZ:List V)(E:XK)(t:TA):TE:=λσ H Q=>t σ H λvs H1=>sp (vs++xZ) H1 Q E
def Pf (C:Addr)(m:Str)(sp:Sp)(xZ:List V)(E:XK)(ta:TE)(t:TA):TE:=λσ H Q=>ta σ H λx H1=>∃a dx fs,x=.ref a/\H1 a=some (.ins C dx fs)/\fs.lookup m=none /\
 t σ H1 λvs H2=>sp (x::(vs++xZ)) H2 Q E
def Pg (C:Addr)(sp:Sp)(xZ:List V)(E:XK)(t:TA):TE:=λσ H Q=>t σ H λvs H1=>∀x dx,H1 x=none->H1 dx=none->dx≠x ->
 sp (.ref x::(vs++xZ)) (upd (upd H1 dx (.own x)) x (.ins C dx [])) (λv H2=>v=.non/\Q (.ref x) H2) E
def fm (K:Frag)(fd:FuncData)(ps:List Str)(ds:List Value):Prop :=
 ∀(s:Shared)(us:List Value),K.In s.heap->(us++ds).length=ps.length->BindsTo s fd ⟨us,[]⟩ (ps.zip (us++ds))
theorem fm.all {K:Frag}{fd:FuncData}{ps:List Str}(h:∀us:List Value,us.length=ps.length->bindArgs fd ⟨us,[]⟩=pure (ps.zip us)):fm K fd ps []:=λs us _ hl=>by
 rw[uQ]at hl ⊢;exact .of_eq (h us hl)
def jE (CX:Cn)(X:Cx)(E:XK):Prop:=∀(ac:List (Addr×Obj))(σ:St)(H:Hp)(s:Shared)(e:Value)(s':Shared),Inv X ac σ H s->CX X.stack H s E e s'->X.xe e s'
section
variable {X:Cx}{CX:Cn}{k:Nat}{f C:Addr}{fd:FuncData}{ps:List Str}{sp:Sp}{xZ:List V}{ds:List Value}{E:XK}{x m:Str}{p pos eW:Pos}{e o:Expr}{es:List Expr}{ta:TE}{t:TA}
theorem zR {ac:List (Addr×Obj)}{σ:St}{H:Hp}{s:Shared}{Q:VK}{us:List Value}{vs:List V}(F:fH X.prog X.w X.K X.mg X.base CX k f fd ps sp)(hr:cC k X.A)(hb:fm X.K fd ps ds)(hd:aS xZ ds)(hx:jE CX X E)
  (I:Inv X ac σ H s) (r:aS vs us) (h:sp (vs++xZ) H Q E):wq X (call (.ref f) us) (EP X ac σ Q) X.xe s:=by
 have r2:aS (vs++xZ) (us++ds):=r.append hd;have hl:(us++ds).length=ps.length:=by rw[←r2.length];exact F.len _ _ _ _ h
 refine wpAny_call (codeAny_mono (F.run X.A X.stack s H ⟨us,[]⟩ (us++ds) (vs++xZ) Q E hr I.env0 (hb s us I.kIn hl) r2 h) λr s' hq=>?_);cases r with
 |error e=>exact hx ac σ H s e s' I hq
 |ok fl=>
  cases fl with
  |ret u=>exact I.after hq
  |next=>exact False.elim hq
  |brk=>exact False.elim hq
  |cont=>exact False.elim hq
theorem wB (F:fH X.prog X.w X.K X.mg X.base CX k f fd ps sp)(hr:cC k X.A)(hg:Gl X x)(hm:X.mg x=some (.ref f))(hk:PySem.W.keepIn X.K (.ref f)=true)(hb:fm X.K fd ps ds)(hd:aS xZ ds)(hx:jE CX X E)
  (ha:PA X (e::es) t) (jW:(x == ("__debug__" : Str))=false:=by decide) (he:starEach (e::es) X.env=(false,eval e X.env)::starEach es X.env:=by rfl) (hpl:(backTo pos (starEach es X.env)).any (·.1)=false:=by rfl):
  PE X (.Call (.Name x p) (e::es) [] pos) (EQ sp xZ E t):=by
 intro ac s σ H Q I h;refine wpAny_Call_Name_kw (hJ I hg hm ?_ jW);refine PySem.W.callWith_K (h₀:=X.base) I.ok.mod.kin hk (cb (ha pos ac s σ H _ I h) λus s1 ⟨vs,H1,I1,r,q⟩=>⟨I1.kIn,?_⟩) he hpl;exact zR F hr hb hd hx I1 r q
theorem zS (F:fH X.prog X.w X.K X.mg X.base CX k f fd ps sp)(hr:cC k X.A)(hg:Gl X x)(hm:X.mg x=some (.ref f))(hk:PySem.W.keepIn X.K (.ref f)=true)(hb:fm X.K fd ps ds)(hd:aS xZ ds)(hx:jE CX X E)
  (jW:(x == ("__debug__" : Str))=false:=by decide):PE X (.Call (.Name x p) [] [] pos) (EQ sp xZ E r6):=by
 intro ac s σ H Q I h;refine wpAny_Call_Name_kw (hJ I hg hm ?_ jW);exact PySem.W.callWith_K0 I.kIn hk (zR (us:=[]) F hr hb hd hx I .nil h)
end
structure FnScope (N P:List Str)(sc:Scope):Prop where
 kind:sc.kind=.function
 co:sc.isCoroutine=false
 gen:sc.isGenerator=false
 nd:N.Nodup
 pre:N.take P.length=P
 par:∀x∈P,sc.names.lookup x=some .local∨sc.names.lookup x=some .cell
 nofree:∀y∈sc.names,y.2≠.free
theorem oM {kindOf:Str->Option NameKind}{x:Str}:∀ {binds:List (Str×Value)}{m:Str->Option Value},(∀v,(x,v)∉binds)->bindL kindOf binds m x=m x
 |[],_,_=>rfl
 | (n,v)::r,m,h=>by
  unfold bindL;rw[oM λw hw=>h w (mZ _ hw)];split
  ·have:x≠n:=by rintro rfl;exact h v mX
   simp[this]
  ·rfl
theorem oN {kindOf:Str->Option NameKind}{x:Str}:∀ {binds:List (Str×Value)}{m:Str->Option Value},(∀v,(x,v)∉binds)->bindC kindOf binds m x=m x
 |[],_,_=>rfl
 | (n,v)::r,m,h=>by
  unfold bindC;rw[oN λw hw=>h w (mZ _ hw)];split
  ·rfl
  ·have:x≠n:=by rintro rfl;exact h v mX
   simp[this]
theorem oP {kindOf:Str->Option NameKind}{x:Str}{v:Value}:∀ {P:List Str}{vs:List Value}{i:Nat}{m:Str->Option Value},P.Nodup->P[i]? = some x->vs[i]? = some v->kindOf x=some .local ->
  bindL kindOf (P.zip vs) m x=some v
 |[],_,_,_,_,h,_,_=>by simp at h
 |_::_,[],_,_,_,_,h,_=>by simp at h
 |p::P,w::vs,0,m,nd,h1,h2,hk=>by
  simp at h1 h2;subst h1;subst h2;show bindL kindOf ((p,w)::P.zip vs) m p=_;unfold bindL;rw[oM λv hv=>(List.nodup_cons.mp nd).1 (List.of_mem_zip hv).1,if_pos hk];simp
 |p::P,w::vs,i+1,m,nd,h1,h2,hk=>by
  show bindL kindOf ((p,w)::P.zip vs) m x=_;unfold bindL;exact oP (i:=i) (List.nodup_cons.mp nd).2 (by simpa using h1) (by simpa using h2) hk
theorem oQ {kindOf:Str->Option NameKind}{x:Str}{v:Value}:∀ {P:List Str}{vs:List Value}{i:Nat}{m:Str->Option Value},P.Nodup->P[i]? = some x->vs[i]? = some v->kindOf x≠some .local ->
  bindC kindOf (P.zip vs) m x=some v
 |[],_,_,_,_,h,_,_=>by simp at h
 |_::_,[],_,_,_,_,h,_=>by simp at h
 |p::P,w::vs,0,m,nd,h1,h2,hk=>by
  simp at h1 h2;subst h1;subst h2;show bindC kindOf ((p,w)::P.zip vs) m p=_;unfold bindC;rw[oN λv hv=>(List.nodup_cons.mp nd).1 (List.of_mem_zip hv).1,if_neg hk];simp
 |p::P,w::vs,i+1,m,nd,h1,h2,hk=>by
  show bindC kindOf ((p,w)::P.zip vs) m x=_;unfold bindC;exact oQ (i:=i) (List.nodup_cons.mp nd).2 (by simpa using h1) (by simpa using h2) hk
noncomputable def gv (N:List Str)(vs:List V):St:=vs.map some++List.replicate (N.length - vs.length) none
noncomputable def dG (CX:Cn)(P:Program)(w:World)(K:Frag)(mg:Str->Option Value)(base:Heap)(N:List Str)(qual:Str)(scope:Scope)(f:Addr)(cd:Value)(A:Around)(outer:List Env)(s:Shared)(H:Hp)(E:XK):Cx where
 prog:=P
 w:=w
 K:=K
 mg:=mg
 base:=base
 A:=A.deeper (envOfC qual scope s.heap.objs.size f cd)
 N:=N
 s₀:=s
 H₀:=H
 env:=envOfC qual scope s.heap.objs.size f cd
 outer:=outer
 stack:=envOfC qual scope s.heap.objs.size f cd::outer
 ex:=[]
 calm:=true
 fn:=λ_=>true
 pn:=[]
 xe:=λe s'=>wpAny (model P w) (A.deeper (envOfC qual scope s.heap.objs.size f cd)) (leaving (envOfC qual scope s.heap.objs.size f cd) e) (λ_ Lo=>CX outer H s E e Lo) (λe' Lo=>CX outer H s E e' Lo) s'
theorem rA {sc:Scope}{n:Nat}{x:Str}(h:sc.names.lookup x=some .cell):∃c,(cellsFrom n sc.names []).lookup x=some c:=by
 have q:=PySem.W.cellsFrom_some sc.names n [] (.inl h);exact Option.isSome_iff_exists.mp q
theorem yo {CX:Cn}{P:Program}{w:World}{K:Frag}{mg:Str->Option Value}{base:Heap}{N ps:List Str}{qual:Str}{scope:Scope}{f:Addr}{cd:Value}{A:Around}{outer:List Env}{s s1:Shared}{H:Hp}{E:XK}{us:List Value}{vs:List V}
  (S:FnScope N ps scope) (hd:A.handled=none) (e0:Env0 P w K mg base A outer s H) (hl:vs.length=ps.length) (r:aS vs us)
  (x:InCallC s s.heap.objs.size (bindL (envOfC qual scope s.heap.objs.size f cd).kindOf (ps.zip us) λ_=>none) (cellsFrom (s.heap.objs.size+1) scope.names []) (bindC (envOfC qual scope s.heap.objs.size f cd).kindOf (ps.zip us) λ_=>none) s1):
  Inv (dG CX P w K mg base N qual scope f cd A outer s H E) [] (gv N vs) H s1:=by
 have hpl:ps.length<=N.length:=by have:=congrArg List.length S.pre;rw[List.length_take]at this;omega
 obtain⟨h1,tk,rfl,hk⟩:=x.done;have Lp:∀b:Addr,b∉(dG CX P w K mg base N qual scope f cd A outer s H E).ex:=λb z=>absurd (show b∈([]:List Addr)from z) (by simp);refine⟨⟨e0.mod,S.kind,rfl,rfl,vT _,λy z c h1 h2=>?_,λy hy=>?_,λy c _ h=>?_,λ_=>hd,Around.frames_deeper e0.frames,.inr ⟨rfl,rfl⟩,λb z=>absurd z (Lp b),e0.bs,e0.bsz,λb _ _=>Lp b,λb z=>absurd z (Lp b),e0.funs,e0.frf⟩,
  rfl,e0.bare,Un.kept hk,⟨_,x.toInCall.ns,λi y v h1 h2 h3=>?_⟩,λy c h=>⟨_,x.cell y c h⟩,e0.hok.fresh (vT _),λy c h=>?_,λp hp=>absurd (show p∈([]:List (Addr×Obj))from hp) (by simp),e0.hok.kept hk,?_⟩
 ·exact name_of_addr x.apart (PySem.mem_of_lookup h1) (PySem.mem_of_lookup h2)
 ·have hy:scope.names.lookup y=some .cell∨scope.names.lookup y=some .free:=hy;rcases hy with hy|hy
  ·exact rA hy
  ·exact absurd rfl (S.nofree _ (PySem.mem_of_lookup hy))
 ·exact Nat.le_of_lt (x.above y c (PySem.mem_of_lookup h))
 ·have hi:i<vs.length:=by
   unfold gv at h2;by_cases hi:i<vs.length
   ·exact hi
   ·rw[List.getElem?_append_right (by simpa using hi)]at h2;rw[List.getElem?_replicate]at h2;split at h2<;>cases h2
  have ha:vs[i]? = some v:=by
   unfold gv at h2;rw[List.getElem?_append_left (by simpa using hi),vB]at h2;cases e:vs[i]? with
   |none=>rw[e]at h2;cases h2
   |some a=>rw[e]at h2;cases h2;rfl
  obtain⟨u,hu,rv⟩:=r.get ha;have hp:ps[i]? = some y:=by
   rw[←S.pre,List.getElem?_take_of_lt (by omega)];exact h1
  have P6:ps.Nodup:=by rw[←S.pre];exact S.nd.sublist (List.take_sublist _ _)
  refine⟨u,rv,?_⟩;rcases S.par y (List.mem_of_getElem? hp)with k|k
  ·exact .inl ⟨k,oP P6 hp hu k⟩
  ·obtain⟨c,e⟩:=rA (n:=s.heap.objs.size+1) k;refine .inr ⟨.inl k,c,e,?_⟩;have q:=x.cell y c e;rw[oQ P6 hp hu (by show scope.names.lookup y≠_;rw[k];decide)]at q;exact q
 ·exact e0.hok.fresh (Nat.le_of_lt (x.above y c (PySem.mem_of_lookup h)))
 ·unfold gv;show _=N.length;rw[vA,vI,List.length_replicate];omega
theorem wC {CX:Cn}{P:Program}{w:World}{K:Frag}{mg:Str->Option Value}{base:Heap}{k:Nat}{f:Addr}{name qual:Str}{params:Arguments}{body:List Stmt}{scope:Scope}{dV kV doc pm cf ct oc:Value}{an od:Option Addr}
  {kW:Array (Option Value)}{N ps:List Str}{sp:Sp}(lk:K.lookup f=some ⟨oc,od,.func (fnOf name qual params body scope dV kV doc pm an cf ct),kW⟩) (gH:PySem.W.codeIn K cf qual=true) (S:FnScope N ps scope)
  (len:∀vs H Q E,sp vs H Q E->vs.length=ps.length)
  (BW:∀(A:Around)(outer:List Env)(s:Shared)(H:Hp)(vs:List V)(Q:VK)(E:XK),cC k (A.deeper (envOfC qual scope s.heap.objs.size f cf))->sp vs H Q E ->
   ∃t,lD (dG CX P w K mg base N qual scope f cf A outer s H E) body t/\t { nx:=λ_ H'=>Q .non H',rt:=Q } (gv N vs) H):
  fH P w K mg base CX (k+1) f (fnOf name qual params body scope dV kV doc pm an cf ct) ps sp:=by
 refine⟨len,λA outer s H args us vs Q E hr e0 hb r FD=>?_⟩;have hl:=len _ _ _ _ FD;have KX:K.In s.heap:=e0.mod.kin.keeps λb o e=>(e0.bs b o e).1;have Rj:s.heap.NoLimit:=e0.mod.nolimit.keeps λb o e=>(e0.bs b o e).1;have Lq:∀y∈ps.zip us,scope.names.lookup y.1=some .local∨(scope.names.lookup y.1=some .cell/\((cellsFrom (s.heap.objs.size+1) scope.names []).lookup y.1).isSome=true):=λ⟨n,v⟩ hy=>by
  rcases S.par n (List.of_mem_zip hy).1 with q|q
  ·exact .inl q
  ·exact .inr ⟨q,PySem.W.cellsFrom_some _ _ _ (.inl q)⟩
 refine codeAny_call_function hr.depth (KX _ _ lk) rfl S.co S.gen rfl (PySem.W.codeRec_of KX gH) (hb _ _ _ _ ?_);refine wpAny_newFunctionEnv_cells S.kind Lq λenv he s1 x=>?_;subst he;refine⟨Rj.keeps x.toInCall.keep,codeAny_func ?_⟩;obtain⟨t,ht,hq⟩:=BW A outer s H vs Q E (hr.deeper _) FD;have I:Inv (dG CX P w K mg base N qual scope f cf A outer s H E) [] (gv N vs) H s1:=yo S hr.hd e0 hl r x;refine wpAny_mono (ht [] s1 (gv N vs) H _ I hq) (λfl s' hs=>?_) λe s' hs=>hs;have gY:∀ {σ':St}{H':Hp}{v:V}{u:Value},Inv (dG CX P w K mg base N qual scope f cf A outer s H E) [] σ' H' s'->aL v u->Q v H'->CE outer P w H s Q u s' :=
  λ{σ' H' v u} J rv q=>⟨v,H',J.os,J.bare,J.base,J.hok,rv,q⟩
 cases fl with
 |ret u=>
  obtain⟨v,σ',H',J,rv,q⟩:=hs;exact gY J rv q
 |next=>
  obtain⟨σ',H',J,q⟩:=hs;exact gY (v:=V.non) (u:=Value.none) J rfl q
 |brk=>
  obtain⟨_,_,_,q⟩:=hs;exact False.elim q
 |cont=>
  obtain⟨_,_,_,q⟩:=hs;exact False.elim q
section
variable {X:Cx}{x:Str}{p pos:Pos}{e:Expr}{es:List Expr}{t:TA}{id T:String}{r:List V->Hp->VK->Prop}
def Ph (r:List V->Hp->VK->Prop)(t:TA):TE:=λσ H Q=>t σ H λvs H1=>r vs H1 Q
theorem ke (hc:bN X (.builtin id) r)(hg:Gl X x)(hm:X.mg x=none)(hv:bootBuiltins x=some (.builtin id))(ha:PA X (e::es) t)(hn:x ≠ "__name__":=by decide)(jW:(x == ("__debug__" : Str))=false:=by decide)
  (he:starEach (e::es) X.env=(false,eval e X.env)::starEach es X.env:=by rfl) (hpl:(backTo pos (starEach es X.env)).any (·.1)=false:=by rfl):PE X (.Call (.Name x p) (e::es) [] pos) (Ph r t):=by
 intro ac s σ H Q I h;refine wpAny_Call_Name_kw (hU I hg hm hv ?_ hn jW);exact PyProof.Rows.callWith_builtin1 (cb (ha pos ac s σ H _ I h) λus s1 ⟨vs,H1,I1,r1,q1⟩=>hc ac s1 σ H1 vs us Q I1 r1 q1) he hpl
theorem lh (hc:bN X (.type T) r)(hg:Gl X x)(hm:X.mg x=none)(hv:bootBuiltins x=some (.type T))(ha:PA X (e::es) t)(hn:x ≠ "__name__":=by decide)(jW:(x == ("__debug__" : Str))=false:=by decide)
  (he:starEach (e::es) X.env=(false,eval e X.env)::starEach es X.env:=by rfl) (hpl:(backTo pos (starEach es X.env)).any (·.1)=false:=by rfl):PE X (.Call (.Name x p) (e::es) [] pos) (Ph r t):=by
 intro ac s σ H Q I h;refine wpAny_Call_Name_kw (hU I hg hm hv ?_ hn jW);exact PyProof.Rows.callWith_type1 (cb (ha pos ac s σ H _ I h) λus s1 ⟨vs,H1,I1,r1,q1⟩=>hc ac s1 σ H1 vs us Q I1 r1 q1) he hpl
end
end L2
namespace HT
open PySem PyProof.Rows
section
open PySem.SeqAt
open PySem.AutoSeq1 (wpAny_loadPart')
open PySem.MeetsSeq PySem.MeetsSeq2 PySem.MeetsSeq3
end
section
variable {prog:Program}{w:World}{A:Around}{E:Value->Shared->Prop}{s:Shared}
theorem CF (ht:IsTup s.heap t vs.toArray)(hb:IsTup s.heap b ws.toArray)(hv:vs≠[])
  (h1:ws=[]->Q (.ref t) s) (h2:ws≠[]->Q (.ref s.heap.objs.size) { s with heap:=s.heap.push { cls:=.type "tuple",data:=.seq (vs++ws).toArray } })
  (hsz:vs.length+ws.length<=sizeLine):wpAny (model prog w) A (binaryOp .Add (.ref t) (.ref b)) Q E s:=by
 obtain⟨⟨cls,dd,data,sl⟩,ho,hc,n,hd⟩:=id ht;obtain⟨⟨Rk,P7,data2,Mx⟩,Jd,Io,n2,P8⟩:=id hb;simp only at hc hd Io P8;subst hc hd Io P8;have e:vs.toArray++ws.toArray=(vs++ws).toArray:=by simp
 by_cases hw:ws=[]
 ·exact concat_meets ⟨_,ho,rfl⟩ ⟨_,Jd,rfl⟩ noFill_tuple_add seq_tuple_add PySem.F.slot_tuple_add PySem.F.entry_tuple_add (PySem.F.args_tuple_add_2 _ _)
   (tuple_addW1 t b vs.toArray ws.toArray n n2 dd P7 sl Mx (by simpa using hv) (by simp[hw])) ⟨ho,Jd,h1 hw⟩
 ·refine concat_meets ⟨_,ho,rfl⟩ ⟨_,Jd,rfl⟩ noFill_tuple_add seq_tuple_add PySem.F.slot_tuple_add PySem.F.entry_tuple_add (PySem.F.args_tuple_add_2 _ _)
   (tuple_addW2 t b vs.toArray ws.toArray n n2 dd P7 sl Mx (by simpa using hv) (by simpa using hw) (by rw[vH,vH];exact hsz)) ⟨ho,Jd,?_⟩
  rw[e];exact h2 hw
noncomputable def cW (n d:Nat):Option Int->Nat
 |none=>d
 |some v=>if v<0 then (v+(n:Int)).toNat else min v.toNat n
theorem rB (n d:Nat):cW n d none=d:=rfl
theorem wE (n d k:Nat):cW n d (some (k:Int))=min k n:=by
 show(if(k:Int)<0 then ((k:Int)+(n:Int)).toNat else min (k:Int).toNat n)=min k n;rw[if_neg (by omega),Int.toNat_natCast]
theorem G8 (n d:Nat)(hd:d<=n)(o:Option Int):cW n d o<=n:=by
 cases o with
 |none=>exact hd
 |some v=>
  show(if v<0 then (v+(n:Int)).toNat else min v.toNat n)<=n;by_cases hv:v<0
  ·rw[if_pos hv];omega
  ·rw[if_neg hv];exact Nat.min_le_right _ _
theorem wF (v:Int)(n d:Nat):(if v<0 then max (v+(n:Int)) 0 else min v (n:Int))=((cW n d (some v):Nat):Int):=by
 show(if v<0 then max (v+(n:Int)) 0 else min v (n:Int))=(((if v<0 then (v+(n:Int)).toNat else min v.toNat n):Nat):Int);by_cases hv:v<0
 ·simp only[if_pos hv];omega
 ·simp only[if_neg hv];omega
theorem uq (lo hi:Option Int)(n:Nat):Builtin.Slice.sliceAdjust lo hi 1 (n:Int)=(((cW n 0 lo:Nat):Int),((cW n n hi:Nat):Int)):=by
 have h1:¬((1:Int)<0):=by omega
 unfold Builtin.Slice.sliceAdjust;simp only[h1,if_false];refine Prod.ext ?_ ?_
 ·cases lo with
  |none=>rfl
  |some v=>exact wF v n 0
 ·cases hi with
  |none=>rfl
  |some v=>exact wF v n n
theorem ur (i j:Nat):Builtin.Slice.slicePlaces (i:Int) (j:Int) 1=j - i:=by
 unfold Builtin.Slice.slicePlaces;have h1:(1:Int) > 0:=by omega
 simp only[h1,if_true,Int.ediv_one];split<;>omega
theorem m7 (p:IsPart v o)(h:Q o s):wpAny (model prog w) A (Builtin.Slice.slicePartIndex v) Q E s:=by
 cases p with
 |none=>exact slicePart_none h
 |int i t=>exact slicePart_int h
theorem gJ {sl:Addr}{vl vu:Value}{lo hi:Option Int}{n:Nat}{Q:Int×Int×Nat->Shared->Prop}(hs:s.heap.IsSliceOf sl vl vu .none)(pl:IsPart vl lo)(pu:IsPart vu hi)
  (h:Q (((cW n 0 lo:Nat):Int),1,cW n n hi - cW n 0 lo) s):wpAny (model prog w) A (Builtin.Slice.sliceApplied (.ref sl) (pure (n:Int))) Q E s:=by
 obtain⟨os,E7,My,Ip⟩:=id hs;unfold Builtin.Slice.sliceApplied Builtin.Slice.sliceFields;refine wX (wX (wpAny_field E7 Ip (x:=vl) rfl (wX (wpAny_field E7 Ip (x:=vu) rfl (wX (wpAny_field E7 Ip (x:=.none) rfl (wY ?_)))))));refine wX (slicePart_none ?_);show wpAny _ _ (if((1:Int) == 0)=true then _ else _) _ _ s;rw[if_neg (by decide)];refine wX (m7 pl (wX (m7 pu (wX (wY ?_)))));show wpAny _ _ (match Builtin.Slice.sliceAdjust lo hi 1 (n:Int) with|(lo,hi)=>pure (lo,(1:Int),Builtin.Slice.slicePlaces lo hi 1)) _ _ s;rw[uq lo hi n];show wpAny _ _ (pure (((cW n 0 lo:Nat):Int),(1:Int),Builtin.Slice.slicePlaces ((cW n 0 lo:Nat):Int) ((cW n n hi:Nat):Int) 1)) _ _ s;rw[ur];exact wY h
theorem zU (xs:Array Value)(i k:Nat):((List.range k).filterMap λ(m:Nat)=>xs[((i:Int)+(m:Int)*1).toNat]?).toArray=((xs.toList.drop i).take k).toArray:=by
 have e:(λ(m:Nat)=>xs[((i:Int)+(m:Int)*1).toNat]?)=λm=>xs[i+m]?:=by
  funext m;have:((i:Int)+(m:Int)*1).toNat=i+m:=by omega
  rw[this]
 rw[e];have:=pick_run xs i k;rw[List.filterMap_map]at this;have e2:((λx=>xs[x]?) ∘ λx=>i+x)=λm=>xs[i+m]?:=rfl;rw[e2]at this;rw[this]
theorem kg {t sl:Addr}{aw:Array Value}{vl vu:Value}{lo hi:Option Int}{Q:Value->Shared->Prop}(ht:IsTup s.heap t aw)(hs:s.heap.IsSliceOf sl vl vu .none)(pl:IsPart vl lo)(pu:IsPart vu hi)
  (hw:¬(cW aw.size 0 lo=0/\cW aw.size aw.size hi=aw.size))
  (h:Q (.ref s.heap.objs.size) { s with heap:=s.heap.push { cls:=.type "tuple",data:=.seq ((aw.toList.drop (cW aw.size 0 lo)).take (cW aw.size aw.size hi - cW aw.size 0 lo)).toArray } })
  (hsz:aw.size<=sizeLine):wpAny (model prog w) A (getItem (.ref t) (.ref sl)) Q E s:=by
 have ya:sizeOk (.seq ((aw.toList.drop (cW aw.size 0 lo)).take (cW aw.size aw.size hi - cW aw.size 0 lo)).toArray):=by
  show((aw.toList.drop (cW aw.size 0 lo)).take (cW aw.size aw.size hi - cW aw.size 0 lo)).toArray.size<=sizeLine
  rw[vH,List.length_take,List.length_drop,vG]
  omega
 have hj:cW aw.size aw.size hi<=aw.size:=G8 _ _ (vT _) hi
 obtain⟨os,E7,My,Ip⟩:=id hs
 have Rm:s.TypeIs (.ref sl) "slice":=⟨os,E7,My⟩
 unfold getItem
 try with_reducible refine wpAny_holding ?_
 first|refine wX (wY ?_)|skip
 refine wX (wpAny_sequenceKey ht.typeIs (by decide) ?_)
 refine wX (wpAny_callSpecial?_slot (name:=Str.ofString "__getitem__") ht.typeIs PyProof.Rows.slot_tuple_getitem
  (wpAny_call_entry PyProof.Rows.slot_tuple_getitem ht.typeIs entry_tuple_getitem ?_ (args_tuple_getitem _ _)))
 show wpAny _ _ (Builtin.Tuple.tupleItemsOf (.ref t)>>=_) _ _ s
 refine wX (tupleItemsOf_ ht ?_)
 refine wX (wpAny_typeOf Rm ?_)
 rw[if_pos (by decide)]
 refine wX (gJ hs pl pu ?_)
 have Je:¬((((cW aw.size 0 lo:Nat):Int) == 0 && (1:Int) == 1 && (cW aw.size aw.size hi - cW aw.size 0 lo) == aw.size)=true):=by
  intro q
  rw[vD,vD]at q
  have q1:((cW aw.size 0 lo:Nat):Int)=0:=eq_of_beq q.1.1
  have q2:cW aw.size aw.size hi - cW aw.size 0 lo=aw.size:=eq_of_beq q.2
  exact hw ⟨by omega,by omega⟩
 show wpAny _ _ (if(((cW aw.size 0 lo:Nat):Int) == 0 && (1:Int) == 1 && (cW aw.size aw.size hi - cW aw.size 0 lo) == aw.size)=true then _ else _) _ _ s
 rw[if_neg Je,zU]
 first
  |exact wX (m:=Builtin.Tuple.tupleExact _) (wpAny_newObj_type (wY ⟨_,rfl,wY h⟩) ya)
  |exact wX (m:=Builtin.Tuple.tupleExact _) (wpAny_newObj_type (wX (wY (wY ⟨_,rfl,wY h⟩))) ya)
  |exact wX (wX (m:=Builtin.Tuple.tupleExact _) (wpAny_newObj_type (wY (wY ⟨_,rfl,wY h⟩)) ya))
  |exact wX (wX (m:=Builtin.Tuple.tupleExact _) (wpAny_newObj_type (wY ⟨_,rfl,wY h⟩) ya))
end
end HT
namespace L2
open PySem PySem.Spec PyProof.Rows
abbrev TO:=St->Hp->(Option Int->Hp->Prop)->Prop
def PO (X:Cx)(e:Option Expr)(t:TO):Prop :=
 ∀(ac:List (Addr×Obj))(s:Shared)(σ:St)(H:Hp)(Q:Option Int->Hp->Prop),Inv X ac σ H s->t σ H Q ->
  wq X (evalPart e X.env) (λu s'=>∃o H',Inv X ac σ H' s'/\IsPart u o/\Q o H') X.xe s
def CG:TO:=λ_ H Q=>Q none H
def JH (t:TE):TO:=λσ H Q=>t σ H λx H1=>∃i,x=.int i/\Q (some i) H1
section
variable {X:Cx}{e:Expr}{te:TE}{lo hi:Option Expr}{tl th:TO}{pos p2:Pos}
theorem CH:PO X none CG:=by
 intro ac s σ H Q I h;rw[evalPart_none];exact wY ⟨none,H,I,.none,h⟩
theorem CJ (h:PE X e te):PO X (some e) (JH te):=by
 intro ac s σ H Q I hw;rw[evalPart_some];refine cb (h ac s σ H _ I hw) λu s1 ⟨x,H1,I1,r1,q1⟩=>?_;obtain⟨i,rfl,q⟩:=q1;obtain⟨t,rfl⟩:=r1;exact⟨some i,H1,I1,.int i t,q⟩
def z9 (X:Cx)(r:V->Option Int->Option Int->Hp->VK->Prop):Prop :=
 ∀(ac:List (Addr×Obj))(s:Shared)(σ:St)(H:Hp)(x:V)(v vl vu:Value)(lo hi:Option Int)(sl:Addr)(Q:VK),Inv X ac σ H s->aL x v->s.heap.IsSliceOf sl vl vu .none->IsPart vl lo->IsPart vu hi->r x lo hi H Q ->
  ∃T id,typeLookup (.type T) "__getitem__" = pure (some (.builtin id))/\s.TypeIs v T/\wq X (getItem v (.ref sl)) (EP X ac σ Q) X.xe s
theorem z9.or (h:z9 X r)(h':z9 X r'):z9 X (λx lo hi H Q=>r x lo hi H Q∨r' x lo hi H Q):=by
 intro ac s σ H x v vl vu lo hi sl Q I rx hs pl pu q;rcases q with q|q
 ·exact h ac s σ H x v vl vu lo hi sl Q I rx hs pl pu q
 ·exact h' ac s σ H x v vl vu lo hi sl Q I rx hs pl pu q
def Q5 (r:V->Option Int->Option Int->Hp->VK->Prop)(te:TE)(tl th:TO):TE:=λσ H Q=>te σ H λx H1=>tl σ H1 λl H2=>th σ H2 λu H3=>r x l u H3 Q
theorem zV (hr:z9 X r)(he:PE X e te)(hl:PO X lo tl)(hu:PO X hi th):PE X (.Subscript e (.Slice lo hi none p2) pos) (Q5 r te tl th):=by
 intro ac s σ H Q I h;refine Subscript_ (cb (he ac s σ H _ I h) λv s1 ⟨x,H1,I1,r1,q1⟩=>?_);refine wpAny_Slice (cb (hl ac s1 σ H1 _ I1 q1) λvl s2 ⟨l,H2,I2,pl,q2⟩=>cb (hu ac s2 σ H2 _ I2 q2) λvu s3 ⟨u,H3,I3,pu,q3⟩=>?_);rw[evalPart_none];refine wY ?_;have I4:Inv X ac σ H3 { s3 with heap:=s3.heap.push { cls:=.type "slice",data:=.fields #[vl,vu,.none] } }:=I3.kept (t':=s3.toks) λb ob q=>vZ _ q;obtain⟨T,id,hT,ht,hg⟩:=hr ac { s3 with heap:=s3.heap.push { cls:=.type "slice",data:=.fields #[vl,vu,.none] } } σ H3 x v vl vu l u s3.heap.objs.size Q I4 r1 (Heap.IsSliceOf.new ..) pl pu q3;show wq X (subscriptTail e (.Slice lo hi none p2) v (.ref s3.heap.objs.size)) (EP X ac σ Q) X.xe { s3 with heap:=s3.heap.push { cls:=.type "slice",data:=.fields #[vl,vu,.none] } };exact tail_any (ops:=[.ref s3.heap.objs.size,v]) ht hT hg (by with_unfolding_all rfl)
def oy (xs:List V)(lo hi:Option Int):List V:=(xs.drop (HT.cW xs.length 0 lo)).take (HT.cW xs.length xs.length hi - HT.cW xs.length 0 lo)
theorem lE (xs:List V)(lo hi:Option Int):(oy xs lo hi).length<=xs.length:=by
 unfold oy;rw[List.length_take,List.length_drop];omega
def MT (K:Frag):V->Option Int->Option Int->Hp->VK->Prop:=λx lo hi H Q=>∃a xs,x=.ref a/\gA K H a xs /\
 ¬(HT.cW xs.length 0 lo=0/\HT.cW xs.length xs.length hi=xs.length)/\∀p,H p=none->Q (.ref p) (upd H p (.tup (oy xs lo hi)))
theorem G9:z9 X (MT X.K):=by
 intro ac s σ H x v vl vu lo hi sl Q I rx hs pl pu h;obtain⟨a,xs,rfl,hx,hw,q⟩:=h;cases rx
 obtain⟨its,r,ht,hz⟩:=I.tuple hx;have bC:its.toArray.size=xs.length:=by rw[vH];exact r.length.symm
 refine⟨"tuple",_,PyProof.Rows.slot_tuple_getitem.lookup,ht.typeIs,?_⟩;refine HT.kg ht hs pl pu (by rw[bC];exact hw) ?_ (by rw[bC];exact hz);rw[bC];refine⟨.ref s.heap.objs.size,_,I.laid (t':=s.toks) (o:=.tup (oy xs lo hi)) (λb ob q=>vZ _ q) (vT _) ?_,rfl,q _ (I.hok.fresh (vT _))⟩;exact⟨vR (lE xs lo hi) hz,_,(r.drop (HT.cW xs.length 0 lo)).take (HT.cW xs.length xs.length hi - HT.cW xs.length 0 lo),IsTup.new _ _⟩
def JJ (K:Frag):R2:=λx y H Q=>∃a b xs ys,x=.ref a/\y=.ref b/\gA K H a xs/\gA K H b ys/\xs≠[]/\xs.length+ys.length<=sizeLine /\
 (ys=[]->Q (.ref a) H)/\(ys≠[]->∀p,H p=none->Q (.ref p) (upd H p (.tup (xs++ys))))
theorem aS.nil_iff (r:aS xs us):us=[]↔xs=[]:=by
 cases r with
 |nil=>simp
 |cons _ _=>simp
theorem CK:cA X (binaryOp .Add) (JJ X.K):=by
 intro ac s σ H x y v u Q I rx ry h;obtain⟨a,b,xs,ys,rfl,rfl,ha,hb,hx,hz,q1,q2⟩:=h;cases rx
 cases ry
 obtain⟨its,r1,p1,_⟩:=I.tuple ha;obtain⟨zw,r2,p2,_⟩:=I.tuple hb;refine HT.CF p1 p2 (λz=>hx (r1.nil_iff.mp z)) (λz=>⟨.ref a,H,I,rfl,q1 (r2.nil_iff.mp z)⟩) (λz=>?_) (by rw[←r1.length,←r2.length];exact hz);refine⟨.ref s.heap.objs.size,_,I.laid (t':=s.toks) (o:=.tup (xs++ys)) (λb ob q=>vZ _ q) (vT _) ?_,rfl,q2 (λw=>z (r2.nil_iff.mpr w)) _ (I.hok.fresh (vT _))⟩;exact⟨by rw[vA];exact hz,_,r1.append r2,IsTup.new _ _⟩
end
def zW (n:Nat)(i:Int):Option Nat:=if 0<=i then (if i<n then some i.toNat else none)else if -(n:Int)<=i then some (i+n).toNat else none
def qp {α:Type}(xs:List α)(i:Int):Option α:=(zW xs.length i).bind λj=>xs[j]?
theorem wG (h:zW n i=some j):seqIndex? i n=some j/\j<n/\-(n:Int)<=i/\i<n:=by
 unfold zW at h;by_cases h0:0<=i
 ·rw[if_pos h0]at h;by_cases h1:i<n
  ·rw[if_pos h1]at h;have e:i.toNat=j:=vK h;exact⟨by rw[seqIndex_of h0 h1,e],by omega,by omega,h1⟩
  ·rw[if_neg h1]at h;cases h
 ·rw[if_neg h0]at h;by_cases h1 : -(n:Int)<=i
  ·rw[if_pos h1]at h;have e:(i+n).toNat=j:=vK h;exact⟨by rw[seqIndex_neg (by omega) h1,e],by omega,h1,by omega⟩
  ·rw[if_neg h1]at h;cases h
theorem qr {α:Type}{xs:List α}{i:Int}{v:α}(h:qp xs i=some v):∃j,seqIndex? i xs.length=some j/\xs[j]? = some v/\j<xs.length/\-(xs.length:Int)<=i/\i<xs.length:=by
 unfold qp at h;cases e:zW xs.length i with
 |none=>rw[e]at h;cases h
 |some j=>
  rw[e]at h;obtain⟨h1,h2,h3,h4⟩:=wG e;exact⟨j,h1,h,h2,h3,h4⟩
theorem CL {α:Type}{xs:List α}{j:Nat}{v:α}(h:xs[j]? = some v):qp xs (j:Int)=some v:=by
 have hj:j<xs.length:=(vV h).1;have e:zW xs.length (j:Int)=some j:=by
  unfold zW;rw[if_pos (by omega),if_pos (by omega)];simp
 unfold qp;rw[e];exact h
def mj (b:Expr):Prop:=∀o i,subscripted b false o i=operate [o,i] (getItem o i)
def zX (X:Cx)(r:R2):Prop :=
 ∀(value slice:Expr)(ac:List (Addr×Obj))(s:Shared)(σ:St)(H:Hp)(x y:V)(v u:Value)(Q:VK),Inv X ac σ H s->aL x v->aL y u->r x y H Q ->
  subscripted slice false v u=operate [v,u] (getItem v u)->wq X (subscriptTail value slice v u) (EP X ac σ Q) X.xe s
def zF (X:Cx)(id:String)(r:V->List V->Hp->VK->Prop):Prop :=
 ∀(ac:List (Addr×Obj))(s:Shared)(σ:St)(H:Hp)(x:V)(xs:List V)(v:Value)(us:List Value)(Q:VK),Inv X ac σ H s->aL x v->aS xs us->r x xs H Q ->
  wq X (call (.builtin id) (v::us)) (EP X ac σ Q) X.xe s
section
variable {X:Cx}{a b:Expr}{ta tb:TE}{pos:Pos}
theorem zX.or (h:zX X r)(h':zX X r'):zX X (λx y H Q=>r x y H Q∨r' x y H Q):=by
 intro value slice ac s σ H x y v u Q I rx ry q hs;rcases q with q|q
 ·exact h value slice ac s σ H x y v u Q I rx ry q hs
 ·exact h' value slice ac s σ H x y v u Q I rx ry q hs
theorem zF.or {id:String}{r r':V->List V->Hp->VK->Prop}(h:zF X id r)(h':zF X id r'):zF X id (λx xs H Q=>r x xs H Q∨r' x xs H Q):=by
 intro ac s σ H x xs v us Q I rx rs q;rcases q with q|q
 ·exact h ac s σ H x xs v us Q I rx rs q
 ·exact h' ac s σ H x xs v us Q I rx rs q
theorem zY (hr:zX X r)(ha:PE X a ta)(hb:PE X b tb)(hs:mj b):PE X (.Subscript a b pos) (Jz r ta tb):=by
 intro ac s σ H Q I h;exact Subscript_ (Gv ha hb I h λv u s2 x y H2 I2 rx ry q=>hr a b ac s2 σ H2 x y v u Q I2 rx ry q (hs _ _))
def MU (K:Frag):R2:=λx y H Q=>∃p xs i v,x=.ref p/\y=.int i/\fO K H p xs/\qp xs i=some v/\Q v H
def MV (K:Frag):R2:=λx y H Q=>∃p xs i v,x=.ref p/\y=.int i/\gA K H p xs/\qp xs i=some v/\Q v H
def MW:R2:=λx y H Q=>∃z i c,x=.str z/\y=.int i/\z.length<=sizeLine/\qp z.cps.toList i=some c/\Q (.str ⟨#[c]⟩) H
theorem CM:zX X (MU X.K):=by
 intro value slice ac s σ H x y v u Q I rx ry h hs;obtain⟨p,xs,i,z,rfl,rfl,hq,he,q⟩:=h;cases rx
 obtain⟨t,rfl⟩:=ry;obtain⟨its,r,pl,hz⟩:=I.list hq;obtain⟨j,h1,h2,h3,h4,h5⟩:=qr he;obtain⟨w,ew,Lr⟩:=r.get h2;have hl:=r.length;have hn:=le;have gY:EP X ac σ Q w s:=⟨z,H,I,Lr,q⟩;by_cases h0:0<=i
 ·have hj:i.toNat=j:=by
   rw[seqIndex_of h0 h5]at h1;exact vK h1
  exact item_listR pl.isList h0 (by omega) (by rw[hj];simpa using ew) gY hs
 ·have hj:(i+(its.toArray.size:Int)).toNat=j:=by
   rw[seqIndex_neg (by omega) h4]at h1;rw[vH,←hl];exact vK h1
  exact subscriptTail_builtinR (x:=w) pl.isList.typeIs slot_list_getitem.lookup
   (wpAny_getItem_list_neg (Q:=λr s'=>r=w/\EP X ac σ Q r s') pl.isList (by omega) (by rw[vH]<;>omega) (by omega) (by rw[hj];simpa using ew) ⟨rfl,gY⟩) hs
theorem zZ:zX X (MV X.K):=by
 intro value slice ac s σ H x y v u Q I rx ry h hs;obtain⟨p,xs,i,z,rfl,rfl,hq,he,q⟩:=h;cases rx
 obtain⟨t,rfl⟩:=ry;obtain⟨its,r,pl,hz⟩:=I.tuple hq;obtain⟨j,h1,h2,h3,h4,h5⟩:=qr he;obtain⟨w,ew,Lr⟩:=r.get h2;have hl:=r.length;have hn:=le;have gY:EP X ac σ Q w s:=⟨z,H,I,Lr,q⟩;exact subscriptTail_builtinR (x:=w) pl.typeIs slot_tuple_getitem.lookup
  (getItem_tuple (j:=j) (Q:=λr s'=>r=w/\EP X ac σ Q r s') pl (by omega) (by omega) (by rw[vH,←hl];exact h1) (by simpa using ew) ⟨rfl,gY⟩) hs
theorem m8:zX X MW:=by
 intro value slice ac s σ H x y v u Q I rx ry h hs;obtain⟨z,i,c,rfl,rfl,hz,he,q⟩:=h;obtain⟨t,rfl⟩:=rx;obtain⟨t',rfl⟩:=ry;obtain⟨j,h1,h2,h3,h4,h5⟩:=qr he;have hl:z.cps.toList.length=z.length:=by simp[Str.length]
 rw[hl]at h1 h4 h5;have hn:=le;exact tail_any (typeIs_str s z t) slot_str_getitem.lookup (getItem_str (c:=c) (by
  have e1:decide (i < -(2 ^ 63:Int))=false:=decide_eq_false (by omega);have e2:decide (i ≥ 2 ^ 63)=false:=decide_eq_false (by omega);rw[e1,e2,Bool.or_false]) (by rw[h1];simpa using h2) ⟨.str ⟨#[c]⟩,H,I.tok _,⟨_,rfl⟩,q⟩) hs
theorem ut (its:List Value)(n j:Nat)(u:Value):Obj.mapSeq (·.setIfInBounds j u) { cls:=.type "list",data:=.seq its.toArray n }={ cls:=.type "list",data:=.seq (its.set j u).toArray n }:=by
 simp[Obj.mapSeq]
theorem Inv.lst (I:Inv X ac σ H s)(h:H p=some (.lst xs)):
  ∃(its:List Value)(n:Nat),aS xs its/\s.heap.get? p=some { cls:=.type "list",data:=.seq its.toArray n }/\xs.length<=sizeLine:=by
 obtain⟨z,its,n,r,e⟩:=I.hok p _ h;exact⟨its,n,r,e,z⟩
theorem Inv.lstUpd {ac:List (Addr×Obj)}{σ:St}{H:Hp}{s:Shared}{p:Addr}{xs ys:List V}{its its':List Value}{n n':Nat}{f:Obj->Obj}(I:Inv X ac σ H s)(h:H p=some (.lst xs))
  (ho:s.heap.get? p=some { cls:=.type "list",data:=.seq its.toArray n }) (hf:f { cls:=.type "list",data:=.seq its.toArray n }={ cls:=.type "list",data:=.seq its'.toArray n' }) (r:aS ys its') (hz:ys.length<=sizeLine) (t:Nat):
  Inv X ac σ (upd H p (.lst ys)) { s with heap:=s.heap.update p f,toks:=t }:=by
 have e:(s.heap.update p f).get? p=some { cls:=.type "list",data:=.seq its'.toArray n' }:=by
  rw[Heap.get?_update_self f ho (by rw[hf]<;>rfl),hf]
 refine I.write (x:=p) (e:=p) (by rw[h];trivial) (.inl rfl) (λb u hb q=>(Heap.get?_update_other _ _ (Ne.symm hb)).trans q) ⟨_,e⟩ ?_;exact⟨hz,its',n',r,e⟩
def JK:V->V->V->Hp->(Hp->Prop)->Prop:=λo i v H Q=>∃p xs k j,o=.ref p/\i=.int k/\H p=some (.lst xs)/\zW xs.length k=some j/\Q (upd H p (.lst (xs.set j v)))
theorem Aa:Ju X JK:=by
 intro ac s σ H o i v ov iv u Q I ro ri rv h;obtain⟨p,xs,k,j,rfl,rfl,hp,hj,q⟩:=h;cases ro
 obtain⟨t,rfl⟩:=ri;obtain⟨its,n,r,ho,hz⟩:=I.lst hp;obtain⟨h1,h2,h3,h4⟩:=wG hj;have hl:=r.length;have hn:=le;have I':Inv X ac σ (upd H p (.lst (xs.set j v))) { s with heap:=s.heap.update p (Obj.mapSeq (·.setIfInBounds j u)) } :=
  I.lstUpd hp ho (ut its n j u) (r.set rv j) (by rw[List.length_set];exact hz) s.toks
 by_cases h0:0<=k
 ·have hk:k.toNat=j:=by
   rw[seqIndex_of h0 h4]at h1;exact vK h1
  exact PySem.W.ki_setAt ho h0 (by omega) (by rw[vH,←hl];exact h4) (by rw[hk];exact⟨_,I',q⟩)
 ·have hk:(k+(its.toArray.size:Int)).toNat=j:=by
   rw[seqIndex_neg (by omega) h3]at h1;rw[vH,←hl];exact vK h1
  exact PySem.W.ki_setBack ho (by omega) (by rw[vH,←hl];exact h3) (by omega) (by rw[hk];exact⟨_,I',q⟩)
theorem qt (lo hi:Option Int)(n:Nat):(sliceBounds lo hi none n).1=((HT.cW n 0 lo:Nat):Int)/\(sliceBounds lo hi none n).2.1=((HT.cW n n hi:Nat):Int)/\(sliceBounds lo hi none n).2.2=1:=by
 refine⟨?_,?_,rfl⟩
 ·cases lo with
  |none=>simp[sliceBounds,HT.cW]
  |some i=>
   simp only[sliceBounds,HT.cW,Option.getD_none,show(1:Int) > 0 by decide,if_true];by_cases h:i<0
   ·simp only[h,if_true]<;>omega
   ·simp only[h,if_false]<;>omega
 ·cases hi with
  |none=>simp[sliceBounds,HT.cW]
  |some i=>
   simp only[sliceBounds,HT.cW,Option.getD_none,show(1:Int) > 0 by decide,if_true];by_cases h:i<0
   ·simp only[h,if_true]<;>omega
   ·simp only[h,if_false]<;>omega
theorem o0 (its:List Value)(lo hi:Option Int):slicePick its.toArray lo hi none=((its.drop (HT.cW its.length 0 lo)).take (HT.cW its.length its.length hi - HT.cW its.length 0 lo)).toArray:=by
 obtain⟨h1,h2,h3⟩:=qt lo hi its.toArray.size;unfold slicePick;rw[h1,h2,h3];simp only[sliceRange_one,pick_run,vH]<;>rfl
def MX (K:Frag):V->Option Int->Option Int->Hp->VK->Prop:=λx lo hi H Q=>∃a xs,x=.ref a/\fO K H a xs/\∀p,H p=none->Q (.ref p) (upd H p (.lst (oy xs lo hi)))
theorem CN:z9 X (MX X.K):=by
 intro ac s σ H x v vl vu lo hi sl Q I rx hs pl pu h;obtain⟨a,xs,rfl,hx,q⟩:=h;cases rx
 obtain⟨its,r,ht,hz⟩:=I.list hx;have bC:=r.length;refine⟨"list",_,slot_list_getitem.lookup,ht.isList.typeIs,?_⟩;refine wpAny_getItem_list_slice ht.isList hs pl pu .none (by simp) ?_ (by rw[vH]<;>omega)
 rw[o0,←bC];refine⟨.ref s.heap.objs.size,_,I.laid (t':=s.toks) (o:=.lst (oy xs lo hi)) (λb ob q=>vZ _ q) (vT _) ?_,rfl,q _ (I.hok.fresh (vT _))⟩;exact⟨vR (lE xs lo hi) hz,_,0,(r.drop (HT.cW xs.length 0 lo)).take (HT.cW xs.length xs.length hi - HT.cW xs.length 0 lo),vY _ rfl⟩
noncomputable def jz:V->Bool
 |.non=>true
 |.bl _=>true
 |.int _=>true
 |.str _=>true
 |_=>false
def Co:V->V->Bool
 |.non,.non=>true
 |.bl a,.bl b=>a == b
 |.bl a,.int b=>(if a then 1 else 0) == b
 |.int a,.bl b=>a == (if b then 1 else 0)
 |.int a,.int b=>a == b
 |.str a,.str b=>a == b
 |_,_=>false
theorem GA (ry:aL y u)(rx:aL x v)(fy:jz y=true)(fx:jz x=true):SeqAt.EqAt A s u v (Co y x):=by
 cases y with
 |non=>
  cases ry
  cases x with
  |non=>cases rx;exact SeqAt.EqAt.same _
  |bl b=>cases rx;exact SeqAt.EqAt.none_bool b
  |int b=>obtain⟨t,rfl⟩:=rx;exact SeqAt.EqAt.none_int b t
  |str b=>obtain⟨t,rfl⟩:=rx;exact SeqAt.EqAt.none_str b t
  |_=>exact absurd (show false=true from fx) uY
 |bl a=>
  cases ry
  cases x with
  |non=>cases rx;exact SeqAt.EqAt.bool_none a
  |bl b=>cases rx;exact SeqAt.EqAt.bool_bool a b
  |int b=>obtain⟨t,rfl⟩:=rx;exact SeqAt.EqAt.bool_int a b t
  |str b=>obtain⟨t,rfl⟩:=rx;exact SeqAt.EqAt.bool_str a b t
  |_=>exact absurd (show false=true from fx) uY
 |int a=>
  obtain⟨t',rfl⟩:=ry;cases x with
  |non=>cases rx;exact SeqAt.EqAt.int_none a t'
  |bl b=>cases rx;exact SeqAt.EqAt.int_bool a t' b
  |int b=>obtain⟨t,rfl⟩:=rx;exact SeqAt.EqAt.int_int a t' b t
  |str b=>obtain⟨t,rfl⟩:=rx;exact SeqAt.EqAt.int_str a t' b t
  |_=>exact absurd (show false=true from fx) uY
 |str a=>
  obtain⟨t',rfl⟩:=ry;cases x with
  |non=>cases rx;exact SeqAt.EqAt.str_none a t'
  |bl b=>cases rx;exact SeqAt.EqAt.str_bool a t' b
  |int b=>obtain⟨t,rfl⟩:=rx;exact SeqAt.EqAt.str_int a t' b t
  |str b=>obtain⟨t,rfl⟩:=rx;exact SeqAt.EqAt.str_str a t' b t
  |_=>exact absurd (show false=true from fx) uY
 |_=>exact absurd (show false=true from fy) uY
def CO (x:V)(u:Value):Bool:=match u with
 |.none=>Co .non x
 |.bool b=>Co (.bl b) x
 |.int i _=>Co (.int i) x
 |.str z _=>Co (.str z) x
 |_=>false
theorem Ab (r:aL y u)(f:jz y=true):CO x u=Co y x:=by
 cases y with
 |non=>cases r;rfl
 |bl b=>cases r;rfl
 |int i=>obtain⟨t,rfl⟩:=r;rfl
 |str z=>obtain⟨t,rfl⟩:=r;rfl
 |_=>exact absurd (show false=true from f) uY
theorem qu:∀ {xs:List V}{us:List Value},aS xs us->xs.all jz=true->us.any (CO x)=xs.any λy=>Co y x
 |_,_,.nil,_=>rfl
 |y::xs,u::us,.cons r t,f=>by
  rw[List.all_cons,vD]at f;rw[List.any_cons,List.any_cons,Ab r f.1,qu t f.2]
theorem m9 (rx:aL x v)(fx:jz x=true):∀ {xs:List V}{us:List Value},aS xs us->xs.all jz=true->∀u∈us,SeqAt.EqAt A s u v (CO x u)
 |_,_,.nil,_=>λu hu=>by cases hu
 |y::xs,u::us,.cons r t,f=>λu' hu=>by
  rw[List.all_cons,vD]at f;rcases vP hu with rfl|hu
  ·rw[Ab r f.1];exact GA r rx f.1 fx
  ·exact m9 rx fx t f.2 u' hu
noncomputable def Mk (x:V)(xs:List V):Bool:=xs.any λy=>Co y x
def Q6 (K:Frag)(Rn:Bool):R2:=λx y H Q=>∃p xs,y=.ref p/\(fO K H p xs∨gA K H p xs)/\jz x=true/\xs.all jz=true/\Q (.bl (if Rn then !Mk x xs else Mk x xs)) H
theorem yp:cA X (compareOp .In) (Q6 X.K false):=by
 intro ac s σ H x y v u Q I rx ry h;obtain⟨p,xs,rfl,hq,fx,fs,q⟩:=h;cases ry
 rcases hq with hq|hq
 ·obtain⟨its,r,pl,hz⟩:=I.list hq;refine SeqAt.in_listAt (CO x) pl.isList (λw hw=>m9 rx fx r fs w (by simpa using hw)) ⟨.bl _,H,I,rfl,?_⟩;rw[show its.toArray.any (CO x)=its.any (CO x) by simp,qu r fs];exact q
 ·obtain⟨its,r,pl,hz⟩:=I.tuple hq;refine SeqAt.in_tupleAt (CO x) pl (λw hw=>m9 rx fx r fs w (by simpa using hw)) ⟨.bl _,H,I,rfl,?_⟩;rw[show its.toArray.any (CO x)=its.any (CO x) by simp,qu r fs];exact q
theorem qv:bN X (.builtin "len") (λxs H Q=>∃p ys,xs=[.ref p]/\(fO X.K H p ys∨gA X.K H p ys)/\Q (.int ys.length) H):=by
 intro ac s σ H xs us Q I r h;obtain⟨p,ys,rfl,hq,q⟩:=h;obtain⟨u,rfl,rx⟩:=gu r;cases rx
 have hn:=le;rcases hq with hq|hq
 ·obtain⟨its,r',pl,hz⟩:=I.list hq;have bC:=r'.length;exact Calls.call_len_list pl.isList (by simp only[vH]<;>omega) ⟨.int ys.length,H,I.tok _,⟨s.toks+1,by rw[vH,bC]⟩,q⟩
 ·obtain⟨its,r',pl,hz⟩:=I.tuple hq;have bC:=r'.length;exact len_tuple pl (by simp only[vH]<;>omega) ⟨.int ys.length,H,I.tok _,⟨s.toks+1,by rw[vH,bC]⟩,q⟩
theorem qw:bN X (.builtin "len") (λxs H Q=>∃z,xs=[.str z]/\z.length<=sizeLine/\Q (.int z.length) H):=by
 intro ac s σ H xs us Q I r h;obtain⟨z,rfl,hz,q⟩:=h;obtain⟨u,rfl,t,rfl⟩:=gu r;have hn:=le;exact len_str (by omega) ⟨.int z.length,H,I.tok _,⟨_,rfl⟩,q⟩
theorem bN.or (h:bN X f r)(h':bN X f r'):bN X f (λxs H Q=>r xs H Q∨r' xs H Q):=by
 intro ac s σ H xs us Q I rs q;rcases q with q|q
 ·exact h ac s σ H xs us Q I rs q
 ·exact h' ac s σ H xs us Q I rs q
theorem qx:bN X (.type "list") (λxs H Q=>∃p ys,xs=[.ref p]/\(fO X.K H p ys∨gA X.K H p ys)/\∀l,H l=none->Q (.ref l) (upd H l (.lst ys))):=by
 intro ac s σ H xs us Q I r h;obtain⟨p,ys,rfl,hq,q⟩:=h;obtain⟨u,rfl,rx⟩:=gu r;cases rx
 have gY:∀(its:List Value),aS ys its->ys.length<=sizeLine->∀(h':Heap)(c':Nat),(∀b o',s.heap.get? b=some o'->h'.get? b=some o') ->
   h'.get? s.heap.objs.size=some { cls:=.type "list",dict:=none,data:=.seq its.toArray c',slots:=#[] }->EP X ac σ Q (.ref s.heap.objs.size) { s with heap:=h' }:=λits r' hz h' c' kp e=>
  ⟨.ref s.heap.objs.size,_,I.laid (t':=s.toks) kp (vT _) (show bF X.prog X.w _ h' _ (.lst ys)from ⟨hz,its,c',r',e⟩),rfl,q _ (I.hok.fresh (vT _))⟩
 rcases hq with hq|hq
 ·obtain⟨its,r',pl,hz⟩:=I.list hq;have bC:=r'.length;obtain⟨o,ho,hc,n,hd⟩:=pl.isList;exact call_list_seq p (.inl rfl) ho hc hd (λh' c' kp e=>gY its r' hz h' c' kp e) (by simp only[vH]<;>omega)
 ·obtain⟨its,r',pl,hz⟩:=I.tuple hq;have bC:=r'.length;obtain⟨o,ho,hc,n,hd⟩:=pl;exact call_list_seq p (.inr rfl) ho hc hd (λh' c' kp e=>gY its r' hz h' c' kp e) (by simp only[vH]<;>omega)
theorem o5:bN X (.type "tuple") (λxs H Q=>∃p ys,xs=[.ref p]/\((fO X.K H p ys/\∀l,H l=none->Q (.ref l) (upd H l (.tup ys)))∨(gA X.K H p ys/\Q (.ref p) H))):=by
 intro ac s σ H xs us Q I r h;obtain⟨p,ys,rfl,h⟩:=h;obtain⟨u,rfl,rx⟩:=gu r;cases rx
 rcases h with⟨hq,q⟩|⟨hq,q⟩
 ·obtain⟨its,r',pl,hz⟩:=I.list hq;have bC:=r'.length;refine call_tuple_list pl.isList (λh' kp=>?_) (by simp only[vH]<;>omega)
  have I1:Inv X ac σ H { s with heap:=h' }:=I.kept (t':=s.toks) kp;have I2:Inv X ac σ (upd H h'.objs.size (.tup ys)) { s with heap:=h'.push { cls:=.type "tuple",data:=.seq its.toArray } } :=
   I1.laid (t':=s.toks) (λb o e=>vZ _ e) (vT _) (show bF X.prog X.w _ _ _ (.tup ys)from ⟨hz,its,r',IsTup.new _ _⟩)
  exact⟨.ref h'.objs.size,_,I2,rfl,q _ (I1.hok.fresh (vT _))⟩
 ·obtain⟨its,r',pl,hz⟩:=I.tuple hq;exact call_tuple_same pl ⟨.ref p,H,I,rfl,q⟩
def MY (K:Frag)(T:String)(x:V)(H:Hp):Prop:=match x with
 |.str _=>T = "str"
 |.int _=>T = "int"
 |.ref p=>(T = "list"/\∃xs,fO K H p xs)∨(T = "tuple"/\∃o,K.lookup p=some o/\o.cls=.type "tuple"/\o.dict=none) ∨
   (T = "dict"/\((∃bE ob,H p=some (.dK bE ob))∨∃bE,H p=some (.dT bE)))∨(T = "set"/\∃S n,H p=some (.set S n))
 |_=>False
theorem Ac (I:Inv X ac σ H s)(r:aL x v)(ty:MY X.K T x H):
  s.TypeIs v T/\∀a,v=.ref a->∃ob,s.heap.get? a=some ob/\ob.dict=none:=by
 cases x with
 |str z=>
  obtain⟨t,rfl⟩:=r;cases (show T = "str" from ty)
  exact⟨typeIs_str s z t,λ_ e=>nomatch e⟩
 |int i=>
  obtain⟨t,rfl⟩:=r;cases (show T = "int" from ty)
  exact⟨typeIs_int s i t,λ_ e=>nomatch e⟩
 |ref p=>
  cases r
  rcases ty with⟨rfl,xs,hq⟩|⟨rfl,o,hk,hc,hd⟩|⟨rfl,hk⟩|⟨rfl,S,n,hk⟩
  ·obtain⟨its,_,pl,_⟩:=I.list hq;refine⟨pl.isList.typeIs,λa e=>?_⟩;cases e
   obtain⟨o,n,e,c,hd,_⟩:=pl;exact⟨o,e,hd⟩
  ·refine⟨⟨o,I.kIn p o hk,hc⟩,λa e=>?_⟩;cases e
   exact⟨o,I.kIn _ o hk,hd⟩
  ·have z:∃o,s.heap.get? p=some o/\o.ExactDict:=by
    rcases hk with⟨bE,Rf,hk⟩|⟨bE,hk⟩
    ·obtain⟨_,_,_,_,_,o,_,_,e,ex,_⟩:=I.hok p _ hk;exact⟨o,e,ex⟩
    ·obtain⟨_,_,_,_,o,_,_,e,ex,_⟩:=I.hok p _ hk;exact⟨o,e,ex⟩
   obtain⟨o,e,ex⟩:=z;refine⟨⟨o,e,ex.1⟩,λa e2=>?_⟩;cases e2
   exact⟨o,e,ex.2.1⟩
  ·obtain⟨o,_,_,_,e,ex,_⟩:=I.hok p _ hk;refine⟨⟨o,e,ex.1⟩,λa e2=>?_⟩;cases e2
   exact⟨o,e,ex.2.1⟩
 |_=>exact False.elim ty
def MZ (K:Frag)(T:String)(r:V->List V->Hp->VK->Prop)(to:TE):TE:=λσ H Q=>to σ H λx H1=>MY K T x H1/\r x [] H1 Q
def Q7 (K:Frag)(T:String)(r:V->List V->Hp->VK->Prop)(to:TE)(t:TA):TE:=λσ H Q=>to σ H λx H1=>MY K T x H1/\t σ H1 λxs H2=>r x xs H2 Q
variable {o e:Expr}{es:List Expr}{to:TE}{t:TA}{name:Str}{eW bU:Pos}{T id:String}{r:V->List V->Hp->VK->Prop}
theorem GB (pa:PlainAttrs T)(slot:Slot T name id)(Cw:typeOf (.builtin id)=pure (.type "method_descriptor"))(hm:zF X id r)(ho:PE X o to)
  (gl:attributeBase o name X.env (eval o X.env)=eval o X.env:=by rfl) (gm:(eW.endLine == bU.line)=true:=by rfl):PE X (.Call (.Attribute o name eW) [] [] bU) (MZ X.K T r to):=by
 intro ac s σ H Q I h;refine wpAny_Call_method0_late gl gm (cb (ho ac s σ H _ I h) λv s1 ⟨x,H1,I1,r1,ty,q1⟩=>?_);obtain⟨h1,h2⟩:=Ac I1 r1 ty;exact⟨T,id,pa,slot,Cw,h1,h2,Calls.callWith_builtin rfl (PySem.evalArgs_none (hm ac s1 σ H1 x [] v [] Q I1 r1 .nil q1))⟩
theorem rC (pa:PlainAttrs T)(slot:Slot T name id)(Cw:typeOf (.builtin id)=pure (.type "method_descriptor"))(hm:zF X id r)(ho:PE X o to)(ha:PA X (e::es) t)
  (gl:attributeBase o name X.env (eval o X.env)=eval o X.env:=by rfl)
  (om:((backTo bU (starEach (e::es) X.env)).all (λx=>!x.1) && (backToKw bU (keywordEach [] X.env)).all (λx=>x.1.isSome)
   && decide ((e::es).length+([]:List Keyword).length+(if([]:List Keyword).isEmpty then 0 else 1)<30))=true:=by rfl)
  (gm:(eW.endLine == bU.line)=true:=by rfl) (hs:starEach (e::es) X.env=(false,eval e X.env)::starEach es X.env:=by rfl) (Iq:(backTo bU (starEach es X.env)).any (·.1)=false:=by rfl):
  PE X (.Call (.Attribute o name eW) (e::es) [] bU) (Q7 X.K T r to t):=by
 intro ac s σ H Q I h;refine wpAny_Call_method_late gl om gm rfl (cb (ho ac s σ H _ I h) λv s1 ⟨x,H1,I1,r1,ty,q1⟩=>?_);obtain⟨h1,h2⟩:=Ac I1 r1 ty;refine⟨T,id,pa,slot,Cw,h1,h2,?_⟩;have hA:=ha bU ac s1 σ H1 _ I1 q1;rw[hs]at hA ⊢;refine Calls.callWith_builtin (by show(false || (backTo bU (starEach es X.env)).any (·.1))=false;rw[Iq]<;>rfl) (Calls.evalArgs_plain ?_)
 exact cb hA λus s2 ⟨vs,H2,I2,r2,q2⟩=>hm ac s2 σ H2 x vs v us Q I2 r1 r2 q2
/- xs.append(e),list.index on a module's tuple .. are zF facts of 06m -/
end
def Na (X:Cx)(id:String)(r:V->List V->Hp->VK->Prop):Prop :=
 ∀(ac:List (Addr×Obj))(s:Shared)(σ:St)(H:Hp)(x:V)(xs:List V)(v:Value)(us:List Value)(Q:VK),Inv X ac σ H s->aL x v->aS xs us->r x xs H Q ->
  wq X (call (.builtin id) (v::us)) (EP X ac σ Q) X.xe s
theorem aS.one {x:V}{us:List Value}(h:aS [x] us):∃u,us=[u]/\aL x u:=by
 cases h with
 |cons r h=>cases h;exact⟨_,rfl,r⟩
theorem aS.two {x y:V}{us:List Value}(h:aS [x,y] us):∃u v,us=[u,v]/\aL x u/\aL y v:=by
 cases h with
 |cons r h=>
  obtain⟨v,rfl,q⟩:=aS.one h;exact⟨_,_,rfl,r,q⟩
theorem aS.zero:∀ {us:List Value},aS [] us->us=[]
 |_,.nil=>rfl
theorem aS.rep (h:aS xs us):∀k:Nat,aS (List.replicate k xs).flatten (List.replicate k us).flatten
 |0=>.nil
 |k+1=>by
  rw[List.replicate_succ,List.replicate_succ,List.flatten_cons,List.flatten_cons];exact aS.append h (aS.rep h k)
theorem oR (its:List Value):∀(k:Nat)(gZ:List Value),
  List.foldl (λx1 x2=>x1++x2) gZ.toArray (List.replicate k its.toArray)=(gZ++(List.replicate k its).flatten).toArray
 |0,gZ=>by simp
 |k+1,gZ=>by
  have e:gZ.toArray++its.toArray=(gZ++its).toArray:=by simp
  have e2:(gZ++its)++(List.replicate k its).flatten=gZ++(List.replicate (k+1) its).flatten:=by
   rw[List.replicate_succ,List.flatten_cons,List.append_assoc]
  rw[←e2,←oR its k (gZ++its),←e,List.replicate_succ,List.foldl_cons]
section
variable {X:Cx}{ac:List (Addr×Obj)}{σ:St}{H:Hp}{s:Shared}{l b:Addr}{xs ys zs:List V}
theorem Inv.lset {its its':List Value}{n:Nat}{f:Array Value->Array Value}{t':Nat}(I:Inv X ac σ H s)(hH:H l=some (.lst xs))
  (e:s.heap.get? l=some { cls:=.type "list",data:=.seq its.toArray n }) (hf:f its.toArray=its'.toArray) (hv:aS ys its') (hz:ys.length<=sizeLine):
  Inv X ac σ (upd H l (.lst ys)) { s with heap:=s.heap.update l (Obj.mapSeq f),toks:=t' }:=by
 have q:=PySem.IsL.update e f;rw[hf]at q;refine I.write (x:=l) (e:=l) (by rw[hH];exact trivial) (.inl rfl) (λb' u hb hu=>(Heap.get?_update_other s.heap (Obj.mapSeq f) (Ne.symm hb)).trans hu) ⟨_,q⟩ ?_;exact⟨hz,its',_,hv,q⟩
theorem Inv.lnew (I:Inv X ac σ H s)(hv:aS ys its)(hz:ys.length<=sizeLine):
  Inv X ac σ (upd H s.heap.objs.size (.lst ys)) { s with heap:=s.heap.push { cls:=.type "list",data:=.seq its.toArray },toks:=t' } :=
 I.laid (λ_ _ q=>vZ _ q) (vT _) ⟨hz,its,0,hv,vY _ rfl⟩
theorem Inv.fresh (I:Inv X ac σ H s):H s.heap.objs.size=none:=I.hok.fresh (vT _)
theorem Inv.lstM (I:Inv X ac σ H s)(hH:H l=some (.lst xs)):xs.length<=sizeLine/\∃(its:List Value)(n:Nat),aS xs its/\xs.length=its.length/\s.heap.get? l=some { cls:=.type "list",data:=.seq its.toArray n }:=by
 obtain⟨z,its,n,r,e⟩:=I.hok l _ hH;exact⟨z,its,n,r,r.length,e⟩
theorem rE (h:n<=sizeLine):Builtin.List.listTooLong n=false:=by
 unfold Builtin.List.listTooLong;exact decide_eq_false (by omega)
end
section
variable {X:Cx}
def wH:V->List V->Hp->VK->Prop:=λx vs H Q=>∃l xs y,x=.ref l/\vs=[y]/\H l=some (.lst xs)/\xs.length<sizeLine/\Q .non (upd H l (.lst (xs++[y])))
theorem oS:Na X "list.append" wH:=by
 intro ac s σ H x vs v us Q I rx rv h;obtain⟨l,xs,y,rfl,rfl,hH,hz,q⟩:=h;cases rx
 obtain⟨u,rfl,ru⟩:=rv.one;obtain⟨z,its,n,r,hl,e⟩:=I.lstM hH;refine call_meets F.slot_list_append ⟨_,e,rfl⟩ F.entry_list_append (F.args_list_append_2 _ _) (PySem.list_append l its.toArray n u (by rw[vH];omega)) ⟨e,?_⟩;refine⟨.non,_,I.lset (its':=its++[u]) hH e (by simp) (r.append (.cons ru .nil)) ?_,rfl,q⟩;rw[vA,List.length_singleton];omega
def CP:V->List V->Hp->VK->Prop:=λx vs H Q=>∃l b xs zs,x=.ref l/\vs=[.ref b]/\H l=some (.lst xs)/\H b=some (.lst zs)/\xs.length+zs.length<=sizeLine/\Q .non (upd H l (.lst (xs++zs)))
theorem yq:Na X "list.extend" CP:=by
 intro ac s σ H x vs v us Q I rx rv h;obtain⟨l,b,xs,zs,rfl,rfl,hH,hB,hz,q⟩:=h;cases rx
 obtain⟨u,rfl,ru⟩:=rv.one;cases ru
 obtain⟨z,its,n,r,hl,e⟩:=I.lstM hH;obtain⟨z2,zw,n2,r2,NX,e2⟩:=I.lstM hB;have hsz:its.toArray.size+zw.toArray.size<=sizeLine:=by rw[vH,vH];omega
 have BX:¬(!its.toArray.isEmpty && Builtin.List.listTooLong (its.toArray.size+zw.toArray.size))=true:=by
  rw[rE hsz,Bool.and_false];exact uY
 refine call_meets F.slot_list_extend ⟨_,e,rfl⟩ F.entry_list_extend (F.args_list_extend_2 _ _)
  (AutoSeq1.list_extend_list_list_0 l its.toArray n b zw.toArray n2 BX (by rw[vH];omega) (by omega)) ⟨e,e2,?_⟩
 refine⟨.non,_,I.lset (its':=its++zw) hH e (by simp) (r.append r2) ?_,rfl,q⟩;rw[vA];omega
def Nb:R2:=λx y H Q=>∃l k xs,x=.ref l/\y=.int k/\H l=some (.lst xs)/\-(2 ^ 63)<=k/\k<2 ^ 63/\xs.length*k.toNat<=sizeLine /\
 ∀p,H p=none->Q (.ref p) (upd H p (.lst (List.replicate k.toNat xs).flatten))
theorem CQ {α:Type}(xs:List α)(k:Nat):(List.replicate k xs).flatten.length=k*xs.length:=by
 induction k with
 |zero=>simp
 |succ k ih=>rw[List.replicate_succ,List.flatten_cons,vA,ih,Nat.succ_mul,Nat.add_comm]
theorem GC:cA X (binaryOp .Mult) Nb:=by
 intro ac s σ H x y v u Q I rx ry h;obtain⟨l,k,xs,rfl,rfl,hH,h1,h2,hz,q⟩:=h;cases rx
 obtain⟨t,rfl⟩:=ry;obtain⟨z,its,n,r,hl,e⟩:=I.lstM hH;have bC:its.toArray.size*k.toNat<=sizeLine:=by rw[vH,←hl];exact hz
 have NY:¬its.toArray.size*k.toNat > (2 ^ 63 - 1) / 8:=by
  have:(sizeLine:Nat)<=(2 ^ 63 - 1) / 8:=by decide
  omega
 have NZ:¬(!Builtin.List.listFitsIndex k)=true:=by
  rw[fitsIndex_both h1 h2];exact uY
 have BX:¬Builtin.List.listTooLong (its.toArray.size*k.toNat)=true:=by
  rw[rE bC];exact uY
 have Oa:List.foldl (λx1 x2=>x1++x2) #[] (List.replicate (if its.toArray.isEmpty=true then 0 else k.toNat) its.toArray)=(List.replicate k.toNat its).flatten.toArray:=by
  have f0:∀m:Nat,List.foldl (λx1 x2=>x1++x2) #[] (List.replicate m its.toArray)=(List.replicate m its).flatten.toArray:=λm=>by
   have:=oR its m [];rw[List.nil_append]at this;exact this
  rw[f0];cases its with
  |nil=>simp
  |cons a r'=>rw[if_neg (by simp)]
 refine wpAny_binaryOp_repeat_ref (T:="list") (U:="int") (by decide) ⟨_,e,rfl⟩ (λs'=>typeIs_int s' k t) noFill_list_mul F.fills_int_mul F.slot_int_rmul repeat_list F.slot_int_index.lookup
  (call_meets F.slot_int_rmul (typeIs_int s k t) F.entry_int_rmul (F.args_int_rmul_2 _ _) (int___rmul___int_list k t l its.toArray n)
   ⟨e,rfl,⟨_,e,rfl⟩,call_meets F.slot_list_mul ⟨_,e,rfl⟩ F.entry_list_mul (F.args_list_mul_2 _ _) (AutoListH.list___mul___list_int_3 l its.toArray n k t NZ NY BX) ⟨e,?_⟩⟩)
 rw[Oa];exact⟨.ref _,_,I.lnew (t':=s.toks) (r.rep k.toNat) (by rw[CQ,Nat.mul_comm];exact hz),rfl,q _ I.fresh⟩
end
end L2
namespace Att
open PySem PySem.W PySem.Calls PyProof.Rows
theorem lR:∀(ns:List Int)(vs:List Value),WellAll P h vs (ns.map WData.int)->IntsAre vs ns:=by
 intro ns;induction ns with
 |nil=>
  intro vs w;rw[List.map_nil]at w;cases w
  exact .nil
 |cons n ns ih=>
  intro vs w;rw[uZ]at w;cases w with
  |cons a b=>
   cases a
   exact .cons _ _ (ih _ b)
theorem yr {l:OpenLaw}{n:Nat}(hn:l.most=some n){P:Params}{h:Heap}{args:List WData}{vals:List Value}
  (E8:l.row.toRowW.claim.pre args=true) (Ob:WellAll P h vals args):
  ∃a vs ns,vals=[Value.ref a]/\args=[WData.list (ns.map WData.int)]/\h.get? a=some { cls:=.type "list",data:=.seq vs.toArray }/\IntsAre vs ns/\ns.length<=n:=by
 have Oc:WShape.hasAll [] args [.list .int]=true:=(pre_splitW E8).1;have hc:l.pre.holds [] { args:=args }=true:=(pre_splitW E8).2;obtain⟨d,r,rfl,h1,h2⟩:=hasAllW_cons Oc;obtain rfl:=hasAllW_nil h2;obtain⟨xs,rfl,h3⟩:=hasW_list h1;obtain⟨ns,rfl⟩:=items_int h3;have bC:ns.length<=n:=by
  unfold OpenLaw.pre at hc;have h4:(WTm.not (.lt (.lit (.int (n:Int))) (.len (.arg 0)))).holds [] { args:=[.list (ns.map .int)] }=true:=by
   have h4:=(holds_andW hc).1;rw[hn]at h4;exact h4
  have h5:=condW_of h4 (w_not (w_lt w_lit (w_len_list (w_arg rfl))));rw[vI]at h5;refine Nat.le_of_not_lt λq=>?_;have q':(n:Int)<((ns.length:Nat):Int):=by omega
  first
   | (rw[decide_eq_true q']at h5;exact absurd h5 (by decide))
   | (simp at h5;omega)
 cases Ob with
 |cons w1 w2=>
  cases w2
  cases w1 with
  |list ho BY=>exact⟨_,_,ns,rfl,rfl,ho,lR ns _ BY,bC⟩
theorem yt (l:OpenLaw)(args:List WData):l.row.toRowW.claim.post args (.bool true) args=true :=
 postW_of (r:=l.row.toRowW) (X:=(true == true))
  (show WShape.has [] (.bool true) .bool=true by first|rfl|decide|simp[WShape.has,WShape.arms,WShape.armsAll])
  (show(WTm.eq .res (.lit (.bool true))).value [] { args:=args,res:=some (.bool true),after:=args }=some (.bool (true == true))from w_eq_bool (w_res rfl) w_lit) rfl
section
variable {prog:Program}{w:World}{A:Around}{E:Value->Shared->Prop}{s:Shared}{K:Frag}
theorem JL 
  (X:K.In s.heap) (hm:makesIn K C=true) (hi:findIn K (.ref C) "__init__" = some (some (.ref fI))) (hf:isFn K (.ref fI)=true)
  (h:codeAny (model prog w) (A.under (.builtin "type.__call__" ⟨.ref C::rest,kw⟩)) (.call (.ref fI) ⟨.ref (s.heap.objs.size+1)::rest,kw⟩) (InitBack (s.heap.objs.size+1) R)
   { s with heap:=(s.heap.push emptyDict).push (instObj C s.heap.objs.size) }):codeAny (model prog w) A (.call (.ref C) ⟨rest,kw⟩) R s:=by
 obtain⟨hh,g,d,t,os⟩:=s;exact make_core (makes_of X hm) (looks_findIn X hi) (λself=>bind_fn X self (beq_iff_eq.mp hf)) (.inl rfl) h
theorem IG 
  (X:K.In s.heap) (I:PySem.W.InstAt s.heap x ox C (some (dictOf es n))) (hg:plainGet K C name=true) (hh:hasDictIn K C=true) (ha:findIn K (.ref C) name=some none)
  (hl:getL name es=some (some v)) (hv:handedIn v=true) (h:Q v { s with toks:=s.toks+1 }):wpAny (model prog w) A (getAttr (.ref x) name Ir) Q E s :=
 get_value X I (plainGet_of hg).1 (findObj_own hh ha rfl hl) hv h
def Nc (h:Heap)(L d:Addr):List (Addr×Obj):=(List.range h.objs.size).filterMap λa=>if a=L∨a=d then none else (h.get? a).map λo=>(a,o)
end
end Att
namespace L2
open PySem PySem.Spec PyProof.Rows
theorem oV:∀ {vs:List Value}{ns:List Int},IntsAre vs ns->aS (ns.map V.int) vs
 |_,_,.nil=>.nil
 |_,_,.cons n t h=>.cons ⟨t,rfl⟩ (oV h)
noncomputable def cS (s:Stmt):Arguments:=match s with
 |.FunctionDef _ a _ _ _ _ _ _ _ _=>a
 |_=>{ posonlyargs:=[],args:=[],vararg:=none,kwonlyargs:=[],kw_defaults:=[],kwarg:=none,defaults:=[] }
noncomputable def bp (s:Stmt):List Stmt:=match s with
 |.FunctionDef _ _ b _ _ _ _ _ _ _=>b
 |_=>[]
noncomputable def ax (s:Stmt):Scope:=match s with
 |.FunctionDef _ _ _ _ _ _ sc _ _ _=>sc
 |_=>{ kind:=.function,names:=[],isGenerator:=false,isCoroutine:=false }
abbrev ml:Cn:=λ_ _ _ _ _ _=>False
abbrev E0:XK:=λ_ _ _=>False
theorem ER:jE ml X E0:=λ_ _ _ _ _ _ _ h=>h.elim
structure Cy (K:Frag)(x qual:Str)(st:Stmt)(f:Addr)(fd:FuncData):Prop where
 ex:∃(oc:Value)(od:Option Addr)(kV doc pm:Value)(an:Option Addr)(cf ct:Value)(kW:Array (Option Value)),
  fd=fnOf x qual (cS st) (bp st) (ax st) .none kV doc pm an cf ct/\K.lookup f=some ⟨oc,od,.func fd,kW⟩/\PySem.W.codeIn K cf qual=true
 kp:PySem.W.keepIn K (.ref f)=true
section
variable {P:Program}{w:World}{K:Frag}{mg:Str->Option Value}{base:Heap}
theorem Cy.ok {x qual:Str}{st:Stmt}{f:Addr}{fd:FuncData}{N ps:List Str}{k:Nat}{sp:Sp}(F:Cy K x qual st f fd)(S:FnScope N ps (ax st))(len:∀vs H Q E,sp vs H Q E->vs.length=ps.length)
  (BW:∀(cf:Value)(A:Around)(outer:List Env)(s:Shared)(H:Hp)(vs:List V)(Q:VK)(E:XK),cC k (A.deeper (envOfC qual (ax st) s.heap.objs.size f cf))->sp vs H Q E ->
   ∃t,lD (dG ml P w K mg base N qual (ax st) f cf A outer s H E).nox (bp st) t/\t { nx:=λ_ H'=>Q .non H',rt:=Q } (gv N vs) H):fH P w K mg base ml (k+1) f fd ps sp:=by
 obtain⟨oc,od,kV,doc,pm,an,cf,ct,kW,rfl,lk,gH⟩:=F.ex;refine wC lk gH S len λA outer s H vs Q E hr FD=>?_;obtain⟨t,h,q⟩:=BW cf A outer s H vs Q E hr FD;exact⟨t,h.nox,q⟩
theorem Cy.binds {x qual:Str}{st:Stmt}{f:Addr}{fd:FuncData}{ps:List Str}(F:Cy K x qual st f fd)
  (h:∀(kV doc pm:Value)(an:Option Addr)(cf ct:Value)(us:List Value),us.length=ps.length->bindArgs (fnOf x qual (cS st) (bp st) (ax st) .none kV doc pm an cf ct) ⟨us,[]⟩=pure (ps.zip us)):fm K fd ps []:=by
 obtain⟨oc,od,kV,doc,pm,an,cf,ct,kW,rfl,lk,gH⟩:=F.ex;exact .all (h kV doc pm an cf ct)
theorem Ad {x qual:Str}{st:Stmt}{f:Addr}{oc:Value}{od an:Option Addr}{kW:Array (Option Value)}{kV doc pm cf ct:Value}(l:K.lookup f=some ⟨oc,od,.func (fnOf x qual (cS st) (bp st) (ax st) .none kV doc pm an cf ct),kW⟩)
  (c:PySem.W.codeIn K cf qual=true) (k:PySem.W.keepIn K (.ref f)=true):Cy K x qual st f (fnOf x qual (cS st) (bp st) (ax st) .none kV doc pm an cf ct):=⟨⟨oc,od,kV,doc,pm,an,cf,ct,kW,rfl,l,c⟩,k⟩
end
def aQ (H H':Hp):Prop:=∀b o,H b=some o->H' b=some o
theorem aQ.refl (H:Hp):aQ H H:=λ_ _ h=>h
theorem aQ.trans (a:aQ H H1)(b:aQ H1 H2):aQ H H2:=λc o h=>b c o (a c o h)
theorem aQ.free (e:aQ H H')(h:H' l=Option.none):H l=Option.none:=by
 cases q:H l with
 |none=>rfl
 |some o=>
  rw[e l o q]at h;cases h
theorem aQ.seq {K:Frag}{H H':Hp}{a:Addr}{xs:List V}(e:aQ H H')(h:fO K H a xs):fO K H' a xs:=by
 rcases h with (h|⟨o,h⟩)|h
 ·exact .inl (.inl (e _ _ h))
 ·exact .inl (.inr ⟨o,e _ _ h⟩)
 ·exact .inr h
section
variable {κ:Type}[DecidableEq κ]
noncomputable def GD (bE:List (κ×V))(k:κ):Option V:=(bE.find? λkv=>decide (kv.1=k)).map (·.2)
theorem ou.getD (r:ou o u)(rd:aL d d'):aL (o.getD d) (u.getD d'):=by
 cases o with
 |none=>cases u with
  |none=>exact rd
  |some _=>exact(show False from r).elim
 |some _=>cases u with
  |none=>exact(show False from r).elim
  |some _=>exact r
theorem KV.length (r:KV bE vs):bE.length=vs.length:=Paired.length r
end
def JM (H:Hp)(a:Addr)(y:V)(r:Option V):Prop :=
 (∃bE k ob,Rd H a (.dK bE ob)/\y=kV k/\r=GD bE k)∨∃bE k b,Rd H a (.dT bE)/\y=.ref b/\H b=some (.tup (k.map kV))/\r=GD bE k
theorem JM.t (e:H a=some (.dT bE))(eb:H b=some (.tup (k.map kV))):JM H a (.ref b) (GD bE k):=.inr ⟨bE,k,b,.inl e,rfl,eb,rfl⟩
end L2
namespace DL
open PySem L2
set_option linter.all false
abbrev St:=L2.St
inductive D where
 |non|bl (b:Bool)|int (i:Int)|str (x:Str)|ty (n:String)|tup (ds:List D)|lst (ds:List D)
  |dk (ks:List jY) (vs:List D)|dt (ks:List (List jY)) (vs:List D)
abbrev OB:=Option (D×Bool)
mutual
inductive Is (K:Frag)(H:Hp):V->D->Prop where
 |non:Is K H .non .non
 |bl (b:Bool):Is K H (.bl b) (.bl b)
 |int (i:Int):Is K H (.int i) (.int i)
 |str (x:Str):Is K H (.str x) (.str x)
 |ty (n:String):Is K H (.ty n) (.ty n)
 |tup {a:Addr}{vs:List V}{ds:List D}(h:gA K H a vs) (hs:IsL K H vs ds):Is K H (.ref a) (.tup ds)
 |lst {a:Addr}{vs:List V}{ds:List D}(h:fO K H a vs) (hs:IsL K H vs ds):Is K H (.ref a) (.lst ds)
 |dk {a:Addr}{ks:List jY}{vs:List V}{ds:List D}{ob:Obj}(h:H a=some (.dK (ks.zip vs) ob)) (hl:ks.length=vs.length) (hs:IsL K H vs ds):Is K H (.ref a) (.dk ks ds)
 |dt {a:Addr}{ks:List (List jY)}{vs:List V}{ds:List D}(h:H a=some (.dT (ks.zip vs))) (hl:ks.length=vs.length) (hs:IsL K H vs ds):Is K H (.ref a) (.dt ks ds)
inductive IsL (K:Frag)(H:Hp):List V->List D->Prop where
 |nil:IsL K H [] []
 |cons {v:V}{d:D}{vs:List V}{ds:List D}(h:Is K H v d) (hs:IsL K H vs ds):IsL K H (v::vs) (d::ds)
end
mutual
def b9:D->Bool
 |.lst _=>false
 |.dk _ _=>false
 |.dt _ _=>false
 |.tup ds=>bR ds
 |_=>true
def bR:List D->Bool
 |[]=>true
 |d::ds=>b9 d && bR ds
end
@[simp] theorem IH:b9 .non=true:=by simp only[b9]
@[simp] theorem JN (b:Bool):b9 (.bl b)=true:=by simp only[b9]
@[simp] theorem II (i:Int):b9 (.int i)=true:=by simp only[b9]
@[simp] theorem IJ (x:Str):b9 (.str x)=true:=by simp only[b9]
@[simp] theorem JP (x:String):b9 (.ty x)=true:=by simp only[b9]
@[simp] theorem IK (ds:List D):b9 (.tup ds)=bR ds:=by rw[b9]
@[simp] theorem IL (ds:List D):b9 (.lst ds)=false:=by rw[b9]
@[simp] theorem JQ (ks:List jY)(ds:List D):b9 (.dk ks ds)=false:=by rw[b9]
@[simp] theorem JR (ks:List (List jY))(ds:List D):b9 (.dt ks ds)=false:=by rw[b9]
@[simp] theorem GF:bR []=true:=by rw[bR]
@[simp] theorem ES (d:D)(ds:List D):bR (d::ds)=(b9 d && bR ds):=by rw[bR]
section
variable {K:Frag}{H H':Hp}
mutual
theorem Is.keep (hT:∀a vs,gA K H a vs->gA K H' a vs)(hL:∀a vs,fO K H a vs->fO K H' a vs)(hK:∀a bE ob,H a=some (.dK bE ob)->H' a=some (.dK bE ob))(hM:∀a bE,H a=some (.dT bE)->H' a=some (.dT bE)):∀ {v:V}{d:D},Is K H v d->Is K H' v d
 |_,_,.non=>.non
 |_,_,.bl b=>.bl b
 |_,_,.int i=>.int i
 |_,_,.str x=>.str x
 |_,_,.ty x=>.ty x
 |_,_,.tup h hs=>.tup (hT _ _ h) (IsL.keep hT hL hK hM hs)
 |_,_,.lst h hs=>.lst (hL _ _ h) (IsL.keep hT hL hK hM hs)
 |_,_,.dk h hl hs=>.dk (hK _ _ _ h) hl (IsL.keep hT hL hK hM hs)
 |_,_,.dt h hl hs=>.dt (hM _ _ h) hl (IsL.keep hT hL hK hM hs)
theorem IsL.keep (hT:∀a vs,gA K H a vs->gA K H' a vs)(hL:∀a vs,fO K H a vs->fO K H' a vs)(hK:∀a bE ob,H a=some (.dK bE ob)->H' a=some (.dK bE ob))(hM:∀a bE,H a=some (.dT bE)->H' a=some (.dT bE)):∀ {vs:List V}{ds:List D},IsL K H vs ds->IsL K H' vs ds
 |_,_,.nil=>.nil
 |_,_,.cons h hs=>.cons (Is.keep hT hL hK hM h) (IsL.keep hT hL hK hM hs)
end
mutual
theorem Is.keepT (hT:∀a vs,gA K H a vs->gA K H' a vs):∀ {v:V}{d:D},Is K H v d->b9 d=true->Is K H' v d
 |_,_,.non,_=>.non
 |_,_,.bl b,_=>.bl b
 |_,_,.int i,_=>.int i
 |_,_,.str x,_=>.str x
 |_,_,.ty x,_=>.ty x
 |_,_,.tup h hs,n=>.tup (hT _ _ h) (IsL.keepT hT hs (by simpa using n))
 |_,_,.lst h hs,n=>by simp at n
 |_,_,.dk h hl hs,n=>by simp at n
 |_,_,.dt h hl hs,n=>by simp at n
theorem IsL.keepT (hT:∀a vs,gA K H a vs->gA K H' a vs):∀ {vs:List V}{ds:List D},IsL K H vs ds->bR ds=true->IsL K H' vs ds
 |_,_,.nil,_=>.nil
 |_,_,.cons h hs,n=>by
  simp at n;exact .cons (Is.keepT hT h n.1) (IsL.keepT hT hs n.2)
end
theorem aZ (e:aQ H H')(h:gA K H a xs):gA K H' a xs:=by
 rcases h with (h|⟨o,h⟩)|h
 ·exact .inl (.inl (e _ _ h))
 ·exact .inl (.inr ⟨o,e _ _ h⟩)
 ·exact .inr h
theorem Is.mono (h:Is K H v d)(e:aQ H H'):Is K H' v d:=h.keep (λ_ _=>aZ e) (λ_ _=>e.seq) (λ_ _ _ q=>e _ _ q) λ_ _ q=>e _ _ q
theorem IsL.mono (h:IsL K H v d)(e:aQ H H'):IsL K H' v d:=h.keep (λ_ _=>aZ e) (λ_ _=>e.seq) (λ_ _ _ q=>e _ _ q) λ_ _ q=>e _ _ q
theorem IsL.length:∀ {vs:List V}{ds:List D},IsL K H vs ds->vs.length=ds.length
 |_,_,.nil=>rfl
 |_,_,.cons _ t=>congrArg (· + 1) t.length
theorem IsL.get:∀ {vs:List V}{ds:List D}{i:Nat}{d:D},IsL K H vs ds->ds[i]? = some d->∃v,vs[i]? = some v/\Is K H v d
 |_,_,_,_,.nil,e=>by simp at e
 |_,_,0,_,.cons h _,e=>by simp at e;subst e;exact⟨_,rfl,h⟩
 |_,_,i+1,d,.cons _ t,e=>by
  obtain⟨u,h1,h2⟩:=t.get (i:=i) (d:=d) (by simpa using e);exact⟨u,by simpa using h1,h2⟩
theorem IsL.append:∀ {vs ws:List V}{ds es:List D},IsL K H vs ds->IsL K H ws es->IsL K H (vs++ws) (ds++es)
 |_,_,_,_,.nil,s=>s
 |_,_,_,_,.cons r t,s=>.cons r (t.append s)
theorem IsL.take:∀ {vs:List V}{ds:List D}(n:Nat),IsL K H vs ds->IsL K H (vs.take n) (ds.take n)
 |_,_,0,_=>by simpa using IsL.nil
 |_,_,_+1,.nil=>.nil
 |_,_,n+1,.cons r t=>.cons r (t.take n)
theorem IsL.drop:∀ {vs:List V}{ds:List D}(n:Nat),IsL K H vs ds->IsL K H (vs.drop n) (ds.drop n)
 |_,_,0,r=>r
 |_,_,_+1,.nil=>.nil
 |_,_,n+1,.cons _ t=>t.drop n
theorem IsL.set (h:Is K H v d):∀ {vs:List V}{ds:List D}(i:Nat),IsL K H vs ds->IsL K H (vs.set i v) (ds.set i d)
 |_,_,_,.nil=>.nil
 |_,_,0,.cons _ t=>.cons h t
 |_,_,i+1,.cons r t=>.cons r (IsL.set h i t)
theorem IsL.flat {vs:List V}{ns:List Int}(h:vs=ns.map V.int):IsL K H vs (ns.map D.int):=by
 subst h;induction ns with
 |nil=>exact .nil
 |cons n ns ih=>exact .cons (.int n) ih
end
structure Ext (B N H H':Hp):Prop where
 hh:aQ H H'
 bn:aQ B N
 nh:aQ N H'
 new:∀a o,N a=some o->B a=some o∨H a=none
theorem Ext.refl (h:aQ B H):Ext B B H H:=⟨.refl _,.refl _,h,λ_ _ e=>.inl e⟩
theorem Ext.trans (x:Ext B N H H1)(y:Ext N N2 H1 H2):Ext B N2 H H2 :=
 ⟨x.hh.trans y.hh,x.bn.trans y.bn,y.nh,λa o e=>(y.new a o e).elim (λq=>x.new a o q) λq=>.inr (x.hh.free q)⟩
theorem Ext.laid (h:aQ B H)(hp:H p=none):Ext B (upd B p o) H (upd H p o):=by
 have hB:B p=none:=h.free hp;refine⟨λa u e=>?_,λa u e=>?_,λa u e=>?_,λa u e=>?_⟩
 ·rw[aA (λq=>by subst q;rw[hp]at e;cases e)];exact e
 ·rw[aA (λq=>by subst q;rw[hB]at e;cases e)];exact e
 ·by_cases q:a=p
  ·subst q;rw[av]at e ⊢;exact e
  ·rw[aA q]at e ⊢;exact h _ _ e
 ·by_cases q:a=p
  ·subst q;exact .inr hp
  ·rw[aA q]at e;exact .inl e
theorem Ext.grow (h:aQ B H)(hh:aQ H H'):Ext B B H H':=⟨hh,.refl _,h.trans hh,λ_ _ e=>.inl e⟩
abbrev Env:=List OB
abbrev FE:=Env->OB
abbrev FA:=Env->Option (List D)
abbrev FT:=Env->Option Bool
def IM (K:Frag)(H N:Hp)(v:V)(d:D):Prop:=∃(a:Addr)(vs:List V)(ds:List D),v=.ref a/\d=.lst ds/\H a=none/\N a=some (.lst vs)/\IsL K N vs ds
theorem IM.back (h:IM K H' N v d)(e:aQ H H'):IM K H N v d:=let ⟨a,vs,ds,q,y,z,r⟩:=h;⟨a,vs,ds,q,y,e.free z,r⟩
noncomputable def rF:List Str:=["in_order","has_seal","is_first_death","bases_by","as_heard"]
noncomputable def GG (x:Str):Str:=x ++ ".<locals>." ++ "<lambda>"
def Tb (K:Frag)(B:Hp):Prop:=∀x∈rF,∀c P,PySem.W.tabIn K x=some (c,P)->B P=some (.tbl (GG x))
theorem Tb.mono (h:Tb K B)(e:aQ B B'):Tb K B':=λx hx c P q=>e _ _ (h x hx c P q)
structure eA (K:Frag)(B:Hp)(σ:St)(ρ:Env):Prop where
 tb:Tb K B
 at':∀(i:Nat)(d:D)(b:Bool),ρ[i]? = some (some (d,b))->∃v,σ[i]? = some (some v)/\Is K B v d
theorem eA.mono (h:eA K B σ ρ)(e:aQ B B'):eA K B' σ ρ:=⟨h.tb.mono e,λi d b q=>let ⟨v,h1,h2⟩:=h.at' i d b q;⟨v,h1,h2.mono e⟩⟩
def Fin (K:Frag)(B H:Hp)(d:D)(b:Bool)(Q:VK):Prop:=∀(v:V)(H' N:Hp),Ext B N H H'->Is K N v d->(b=true->IM K H N v d)->Q v H'
def tD (K:Frag)(f:FE):TE:=λσ H Q=>∃(B:Hp)(ρ:Env)(d:D)(b:Bool),aQ B H/\eA K B σ ρ/\f ρ=some (d,b)/\Fin K B H d b Q
def uu (K:Frag)(f:FT):TT:=λσ H Q=>∃(B:Hp)(ρ:Env)(c:Bool),aQ B H/\eA K B σ ρ/\f ρ=some c/\∀H',aQ H H'->Q c H'
def JU (K:Frag)(f:FA):TA:=λσ H Q=>∃(B:Hp)(ρ:Env)(ds:List D),aQ B H/\eA K B σ ρ/\f ρ=some ds/\∀(vs:List V)(H' N:Hp),Ext B N H H'->IsL K N vs ds->Q vs H'
def rD (K:Frag)(op:D->D->OB):R2:=λx y H Q=>∃(B:Hp)(dx dy d:D)(b:Bool),aQ B H/\Is K B x dx/\Is K B y dy/\op dx dy=some (d,b)/\Fin K B H d b Q
def Nd (K:Frag)(op:D->OB):V->Hp->VK->Prop:=λx H Q=>∃(B:Hp)(dx d:D)(b:Bool),aQ B H/\Is K B x dx/\op dx=some (d,b)/\Fin K B H d b Q
def zG (K:Frag)(op:List D->OB):List V->Hp->VK->Prop:=λxs H Q=>∃(B:Hp)(ds:List D)(d:D)(b:Bool),aQ B H/\IsL K B xs ds/\op ds=some (d,b)/\Fin K B H d b Q
theorem Fin.one (h:Fin K B H d false Q)(s:aQ B H)(i:Is K B v d):Q v H:=h v H B (.refl s) i (by simp)
theorem Fin.into (h:Fin K B H d b Q)(x:Ext B N H H1):Fin K N H1 d b Q:=λv H' N' y i fr=>h v H' N' (x.trans y) i λe=>(fr e).back x.hh
@[simp] noncomputable def fC (d:D):FE:=λ_=>some (d,false)
@[simp] noncomputable def ah (i:Nat):FE:=λρ=>match ρ[i]? with|some (some (d,_))=>some (d,false)|_=>none
@[simp] noncomputable def f2 (op:D->D->OB)(fa fb:FE):FE:=λρ=>(fa ρ).bind λx=>(fb ρ).bind λy=>op x.1 y.1
@[simp] noncomputable def f1 (op:D->OB)(fa:FE):FE:=λρ=>(fa ρ).bind λx=>op x.1
@[simp] noncomputable def al:FA:=λ_=>some []
@[simp] noncomputable def ag (fa:FE)(fr:FA):FA:=λρ=>(fa ρ).bind λx=>(fr ρ).bind λxs=>some (x.1::xs)
@[simp] noncomputable def fA (op:List D->OB)(fa:FA):FE:=λρ=>(fa ρ).bind op
theorem GH (h:tD K (ah i) σ H Q):∃v,σ[i]? = some (some v)/\Q v H:=by
 obtain⟨B,ρ,d,b,s,r,e,q⟩:=h;unfold ah at e;split at e
 ·rename_i d' b' e';cases e
  obtain⟨v,h1,h2⟩:=r.at' i _ _ e';exact⟨v,h1,q.one s h2⟩
 ·cases e
theorem CS (h:tD K (f2 op fa fb) σ H Q):tD K fa σ H λx H1=>tD K fb σ H1 λy H2=>rD K op x y H2 Q:=by
 obtain⟨B,ρ,d,b,s,r,e,q⟩:=h;obtain⟨x,ex,e⟩:=oX e;obtain⟨y,ey,e⟩:=oX e;refine⟨B,ρ,x.1,x.2,s,r,ex,λv H1 N x1 i1 _=>⟨N,ρ,y.1,y.2,x1.nh,r.mono x1.bn,ey,λv2 H2 N2 x2 i2 _=>⟨N2,x.1,y.1,d,b,x2.nh,i1.mono x2.bn,i2,e,?_⟩⟩⟩;exact q.into (x1.trans x2)
theorem Nf (h:tD K (f1 op fa) σ H Q):tD K fa σ H λx H1=>Nd K op x H1 Q:=by
 obtain⟨B,ρ,d,b,s,r,e,q⟩:=h;obtain⟨x,ex,e⟩:=oX e;exact⟨B,ρ,x.1,x.2,s,r,ex,λv H1 N x1 i1 _=>⟨N,x.1,d,b,x1.nh,i1,e,q.into x1⟩⟩
theorem CU (h:tD K (fA op fa) σ H Q):JU K fa σ H λxs H1=>zG K op xs H1 Q:=by
 obtain⟨B,ρ,d,b,s,r,e,q⟩:=h;obtain⟨x,ex,e⟩:=oX e;exact⟨B,ρ,x,s,r,ex,λv H1 N x1 i1=>⟨N,x,d,b,x1.nh,i1,e,q.into x1⟩⟩
theorem CV (h:JU K al σ H Q):Q [] H:=by
 obtain⟨B,ρ,ds,s,r,e,q⟩:=h;cases e
 exact q [] H B (.refl s) .nil
theorem Ae (h:JU K (ag fa fr) σ H Q):tD K fa σ H λx H1=>JU K fr σ H1 λxs H2=>Q (x::xs) H2:=by
 obtain⟨B,ρ,ds,s,r,e,q⟩:=h;obtain⟨x,ex,e⟩:=oX e;obtain⟨y,ey,e⟩:=oX e;cases e
 exact⟨B,ρ,x.1,x.2,s,r,ex,λv H1 N x1 i1 _=>⟨N,ρ,y,x1.nh,r.mono x1.bn,ey,λvs H2 N2 x2 i2=>q _ H2 N2 (x1.trans x2) (.cons (i1.mono x2.bn) i2)⟩⟩
@[simp] noncomputable def bw (f:FE):FT:=λρ=>match f ρ with|some (.bl c,_)=>some c|_=>none
@[simp] noncomputable def lF (f g:FT):FT:=λρ=>match f ρ with|some true=>g ρ|some false=>some false|none=>none
@[simp] noncomputable def dH (f g:FT):FT:=λρ=>match f ρ with|some true=>some true|some false=>g ρ|none=>none
@[simp] noncomputable def bY (f:FT):FT:=λρ=>(f ρ).map (!·)
@[simp] noncomputable def ot (c:FT)(f g:FE):FE:=λρ=>match c ρ with|some true=>f ρ|some false=>g ρ|none=>none
open Classical in
noncomputable def dw (H:Hp)(P:Addr->Prop):Hp:=λa=>if P a then none else H a
theorem cG (h:¬P a):dw H P a=H a:=by unfold dw;rw[if_neg h]
theorem uv (h:P a):dw H P a=none:=by unfold dw;rw[if_pos h]
theorem mB (h:dw H P a=some o):¬P a/\H a=some o:=by
 by_cases q:P a
 ·rw[uv q]at h;cases h
 ·rw[cG q]at h;exact⟨q,h⟩
theorem bJ:aQ (dw H P) H:=λ_ _ e=>(mB e).2
theorem fP (e:∀a o,H a=some o->¬P a->H' a=some o/\¬P' a):aQ (dw H P) (dw H' P'):=λa o q=>by
 obtain⟨h1,h2⟩:=mB q;obtain⟨h3,h4⟩:=e a o h2 h1;rw[cG h4];exact h3
noncomputable def join (N N':Hp):Hp:=λa=>match N a with|some o=>some o|none=>N' a
theorem dI:aQ N (join N N'):=λa o e=>by unfold join;rw[e]
theorem dj (e:N a=none):join N N' a=N' a:=by unfold join;rw[e]
def own (σ:St)(ρ:Env)(a:Addr):Prop:=∃(i:Nat)(d:D),ρ[i]? = some (some (d,true))/\σ[i]? = some (some (V.ref a))
inductive Bx (K:Frag)(C:Hp):HO->D->Prop where
 |lst {vs:List V}{ds:List D}(h:IsL K C vs ds):Bx K C (.lst vs) (.lst ds)
 |dk {ks:List jY}{vs:List V}{ds:List D}(hl:ks.length=vs.length) (h:IsL K C vs ds) {ob:Obj}:Bx K C (.dK (ks.zip vs) ob) (.dk ks ds)
 |dt {ks:List (List jY)}{vs:List V}{ds:List D}(hl:ks.length=vs.length) (h:IsL K C vs ds):Bx K C (.dT (ks.zip vs)) (.dt ks ds)
theorem Bx.mono (h:Bx K C o d)(e:aQ C C'):Bx K C' o d:=by
 cases h with
 |lst h=>exact .lst (h.mono e)
 |dk hl h=>exact .dk hl (h.mono e)
 |dt hl h=>exact .dt hl (h.mono e)
theorem Bx.is (h:Bx K C o d)(e:C a=some o):Is K C (.ref a) d:=by
 cases h with
 |lst h=>exact .lst (fO.of e) h
 |dk hl h=>exact .dk e hl h
 |dt hl h=>exact .dt e hl h
structure dP (K:Frag)(B0 H0 N H:Hp)(σ:St)(ρ:Env):Prop where
 bh:aQ B0 H0
 tb:Tb K B0
 ext:Ext B0 N H0 H
 len:ρ.length=σ.length
 sh:∀(i:Nat)(d:D),ρ[i]? = some (some (d,false))->∃v,σ[i]? = some (some v)/\Is K (dw N (own σ ρ)) v d
 ow:∀(i:Nat)(d:D),ρ[i]? = some (some (d,true))->∃(a:Addr)(o:HO),σ[i]? = some (some (V.ref a))/\N a=some o/\H0 a=none/\Bx K (dw N (own σ ρ)) o d
 inj:∀(i j:Nat)(a:Addr)(d e:D),ρ[i]? = some (some (d,true))->ρ[j]? = some (some (e,true))->σ[i]? = some (some (V.ref a))->σ[j]? = some (some (V.ref a))->i=j
def uw (K:Frag)(B0 H0 H:Hp)(σ:St)(ρ:Env):Prop:=∃N,dP K B0 H0 N H σ ρ
section
variable {K:Frag}{B0 H0 N H H':Hp}{σ:St}{ρ:Env}
theorem dP.owL (s:dP K B0 H0 N H σ ρ)(i:Nat)(d:D)(q:ρ[i]? = some (some (.lst es,true)))(hd:d=.lst es:=by rfl):∃(a:Addr)(vs:List V)(ds:List D),d=.lst ds/\σ[i]? = some (some (V.ref a))/\N a=some (.lst vs)/\H0 a=none/\IsL K (dw N (own σ ρ)) vs ds:=by
 obtain⟨a,o,h1,h2,h3,h4⟩:=s.ow i _ q;cases h4 with
 |lst h4=>exact⟨a,_,es,hd,h1,h2,h3,h4⟩
def boxed:HO->Prop
 |.lst _|.dK _ _|.dT _=>True
 |_=>False
theorem Bx.boxed (h:Bx K C o d):boxed o:=by cases h<;>exact trivial
theorem dP.owned (s:dP K B0 H0 N H σ ρ)(h:own σ ρ a):∃o,(N a=some o/\boxed o)/\H0 a=none:=by
 obtain⟨i,d,h1,h2⟩:=h;obtain⟨a',o,h3,h4,h5,h6⟩:=s.ow i d h1;rw[h2]at h3;cases h3;exact⟨o,⟨h4,h6.boxed⟩,h5⟩
theorem dP.rep (s:dP K B0 H0 N H σ ρ):eA K N σ ρ:=⟨s.tb.mono s.ext.bn,λi d b q=>by
 cases b with
 |false=>obtain⟨v,h1,h2⟩:=s.sh i d q;exact⟨v,h1,h2.mono bJ⟩
 |true=>
  obtain⟨a,o,h2,h3,_,h4⟩:=s.ow i d q;exact⟨_,h2,(h4.mono bJ).is h3⟩⟩
noncomputable def kh (ρ:Env):Env:=ρ.map λx=>match x with|some (d,false)=>some (d,false)|_=>none
theorem Af {i:Nat}{d:D}{b:Bool}(h:(kh ρ)[i]? = some (some (d,b))):b=false/\ρ[i]? = some (some (d,false)):=by
 unfold kh at h;rw[vB]at h;cases e:ρ[i]? with
 |none=>rw[e]at h;cases h
 |some x=>
  rw[e]at h;match x,h with
  |some (d',false),h=>cases h;exact⟨rfl,rfl⟩
  |some (d',true),h=>cases h
  |none,h=>cases h
theorem dP.tbC (s:dP K B0 H0 N H σ ρ):Tb K (dw N (own σ ρ)):=λx hx c P q=>by
 have z:=s.tb.mono s.ext.bn x hx c P q;rw[cG]
 ·exact z
 ·intro y;obtain⟨o,⟨y,yb⟩,_⟩:=s.owned y;rw[z]at y;cases y;exact yb
theorem dP.repH (s:dP K B0 H0 N H σ ρ):eA K (dw N (own σ ρ)) σ (kh ρ):=⟨s.tbC,λi d b q=>by
 obtain⟨rfl,q2⟩:=Af q;exact s.sh i d q2⟩
theorem dP.grow (s:dP K B0 H0 N H σ ρ)(x:Ext N N' H H'):dP K B0 H0 N' H' σ ρ:=by
 have c:aQ (dw N (own σ ρ)) (dw N' (own σ ρ)):=fP λa o e q=>⟨x.bn a o e,q⟩;refine⟨s.bh,s.tb,s.ext.trans x,s.len,λi d q=>?_,λi d q=>?_,s.inj⟩
 ·obtain⟨v,h1,h2⟩:=s.sh i d q;exact⟨v,h1,h2.mono c⟩
 ·obtain⟨a,o,h2,h3,h4,h5⟩:=s.ow i d q;exact⟨a,o,h2,x.bn _ _ h3,h4,h5.mono c⟩
theorem dP.growH (s:dP K B0 H0 N H σ ρ)(x:Ext (dw N (own σ ρ)) N' H H'):dP K B0 H0 (join N N') H' σ ρ/\aQ N' (dw (join N N') (own σ ρ)):=by
 have x':Ext N (join N N') H H':=by
  refine⟨x.hh,dI,λa o e=>?_,λa o e=>?_⟩
  ·cases q:N a with
   |some u=>
    have:join N N' a=some u:=dI _ _ q;rw[this]at e;cases e;exact x.hh _ _ (s.ext.nh _ _ q)
   |none=>rw[dj q]at e;exact x.nh _ _ e
  ·cases q:N a with
   |some u=>
    have:join N N' a=some u:=dI _ _ q;rw[this]at e;cases e;exact .inl rfl
   |none=>
    rw[dj q]at e;rcases x.new a o e with z|z
    ·have:=bJ _ _ z;rw[q]at this;cases this
    ·exact .inr z
 refine⟨s.grow x',λa o e=>?_⟩;rcases x.new a o e with z|z
 ·obtain⟨z1,z2⟩:=mB z;rw[cG z1];exact dI _ _ z2
 ·have hN:N a=none:=s.ext.nh.free z;have:¬own σ ρ a:=λq=>by obtain⟨vs,⟨q,_⟩,_⟩:=s.owned q;rw[hN]at q;cases q
  rw[cG this,dj hN];exact e
noncomputable def unown (ρ:Env):Env:=ρ.map λx=>x.map λy=>(y.1,false)
theorem jk {i:Nat}{d:D}{b:Bool}(h:(unown ρ)[i]? = some (some (d,b))):b=false/\∃c,ρ[i]? = some (some (d,c)):=by
 unfold unown at h;rw[vB]at h;cases e:ρ[i]? with
 |none=>rw[e]at h;cases h
 |some x=>
  rw[e]at h;match x,h with
  |some (d',c),h=>cases h;exact⟨rfl,c,rfl⟩
  |none,h=>cases h
theorem oW {a:Addr}:¬own σ (unown ρ) a:=λ⟨i,d,h,_⟩=>by
 obtain⟨z,_⟩:=jk h;cases z
theorem dP.unown (s:dP K B0 H0 N H σ ρ):dP K B0 H0 N H σ (unown ρ):=by
 refine⟨s.bh,s.tb,s.ext,by unfold DL.unown;rw[vI];exact s.len,λi d q=>?_,λi d q=>?_,λi j a d e q=>?_⟩
 ·obtain⟨_,c,q⟩:=jk q;obtain⟨v,h1,h2⟩:=s.rep.at' i d c q;exact⟨v,h1,h2.mono λa o e=>by rw[cG oW];exact e⟩
 ·obtain⟨z,_⟩:=jk q;cases z
 ·obtain⟨z,_⟩:=jk q;cases z
theorem bO {α:Type}{l:List α}{i j:Nat}{x y:α}(h:(l.set i x)[j]? = some y):(i=j/\x=y)∨(i≠j/\l[j]? = some y):=by
 by_cases e:i=j
 ·subst e;rw[List.getElem?_set]at h;split at h
  ·split at h
   ·exact .inl ⟨rfl,vK h⟩
   ·cases h
  ·contradiction
 ·rw[vC e]at h;exact .inr ⟨e,h⟩
theorem oZ {α β:Type}{l:List α}{m:List β}{i:Nat}{x y:α}(h:(l.set i x)[i]? = some y)(e:l.length=m.length):i<m.length:=by
 obtain⟨h,_⟩:=vV h;rw[List.length_set]at h;omega
theorem qy {i:Nat}{v:V}{x:OB}{a:Addr}(h:own (σ.set i (some v)) (ρ.set i x) a):(v=.ref a/\∃d,x=some (d,true))∨∃j,j≠i/\∃d,ρ[j]? = some (some (d,true))/\σ[j]? = some (some (V.ref a)):=by
 obtain⟨j,d,h1,h2⟩:=h;rcases bO h1 with⟨e,q⟩|⟨e,q⟩
 ·rcases bO h2 with⟨e2,q2⟩|⟨e2,q2⟩
  ·cases q2;exact .inl ⟨rfl,d,q⟩
  ·exact absurd e e2
 ·rcases bO h2 with⟨e2,q2⟩|⟨e2,q2⟩
  ·exact absurd e2 e
  ·exact .inr ⟨j,λz=>e z.symm,d,q,q2⟩
theorem dP.bind (s:dP K B0 H0 N H σ ρ){i:Nat}{v:V}{d:D}(h:Is K (dw N (own σ ρ)) v d):dP K B0 H0 N H (σ.set i (some v)) (ρ.set i (some (d,false))):=by
 have o:∀a,own (σ.set i (some v)) (ρ.set i (some (d,false))) a->own σ ρ a:=λa q=>by
  rcases qy q with⟨_,d',p⟩|⟨j,_,d',q1,q2⟩
  ·cases p
  ·exact⟨j,d',q1,q2⟩
 have c:aQ (dw N (own σ ρ)) (dw N (own (σ.set i (some v)) (ρ.set i (some (d,false))))):=fP λa u e q=>⟨e,λz=>q (o a z)⟩;refine⟨s.bh,s.tb,s.ext,by simp[s.len],λj e q=>?_,λj e q=>?_,λj k a e f q q' h1 h2=>?_⟩
 ·rcases bO q with⟨rfl,p⟩|⟨ne,p⟩
  ·cases p
   have hi:=oZ q s.len;exact⟨v,by simp[hi],h.mono c⟩
  ·obtain⟨w,h1,h2⟩:=s.sh j e p;exact⟨w,by rw[vC ne];exact h1,h2.mono c⟩
 ·rcases bO q with⟨rfl,p⟩|⟨ne,p⟩
  ·cases p
  ·obtain⟨a,o,h1,h2,h3,h4⟩:=s.ow j e p;exact⟨a,o,by rw[vC ne];exact h1,h2,h3,h4.mono c⟩
 ·rcases bO q with⟨rfl,p⟩|⟨ne,p⟩
  ·cases p
  ·rcases bO q' with⟨rfl,p'⟩|⟨Lu,p'⟩
   ·cases p'
   ·rw[vC ne]at h1;rw[vC Lu]at h2;exact s.inj j k a e f p p' h1 h2
theorem dP.bindOwn (s:dP K B0 H0 N H σ ρ){i:Nat}{a:Addr}{ob:HO}{dd:D}(hN:N a=some ob)(h0:H0 a=none)(Je:∀(j:Nat)(d:D),ρ[j]? = some (some (d,true))->σ[j]? ≠ some (some (V.ref a)))
  (Oc:∀(j:Nat)(d:D),j≠i->ρ[j]? = some (some (d,false))->∃v,σ[j]? = some (some v)/\Is K (dw N (λb=>own σ ρ b∨b=a)) v d) (Ro:∀(j:Nat)(d:D),j≠i->ρ[j]? = some (some (d,true))->∃(a':Addr)(o:HO),σ[j]? = some (some (V.ref a'))/\N a'=some o/\Bx K (dw N (λb=>own σ ρ b∨b=a)) o d)
  (Ip:Bx K (dw N (λb=>own σ ρ b∨b=a)) ob dd):dP K B0 H0 N H (σ.set i (some (.ref a))) (ρ.set i (some (dd,true))):=by
 have o:∀b,own (σ.set i (some (V.ref a))) (ρ.set i (some (dd,true))) b->own σ ρ b∨b=a:=λb q=>by
  rcases qy q with⟨p,_⟩|⟨j,_,d',q1,q2⟩
  ·cases p;exact .inr rfl
  ·exact .inl ⟨j,d',q1,q2⟩
 have c:aQ (dw N (λb=>own σ ρ b∨b=a)) (dw N (own (σ.set i (some (V.ref a))) (ρ.set i (some (dd,true))))):=fP λb u e q=>⟨e,λz=>q (o b z)⟩;refine⟨s.bh,s.tb,s.ext,by simp[s.len],λj e q=>?_,λj e q=>?_,λj k b e f q q' h1 h2=>?_⟩
 ·rcases bO q with⟨rfl,p⟩|⟨ne,p⟩
  ·cases p
  ·obtain⟨w,h1,h2⟩:=Oc j e (Ne.symm ne) p;exact⟨w,by rw[vC ne];exact h1,h2.mono c⟩
 ·rcases bO q with⟨rfl,p⟩|⟨ne,p⟩
  ·cases p
   have hi:=oZ q s.len;exact⟨a,ob,by simp[hi],hN,h0,Ip.mono c⟩
  ·obtain⟨a',o',h1,h2,h4⟩:=Ro j e (Ne.symm ne) p;have h3:H0 a'=none:=by
    obtain⟨a2,_,k1,_,k3,_⟩:=s.ow j e p;rw[h1]at k1;cases k1;exact k3
   exact⟨a',o',by rw[vC ne];exact h1,h2,h3,h4.mono c⟩
 ·rcases bO q with⟨rfl,p⟩|⟨ne,p⟩
  ·rcases bO q' with⟨rfl,p'⟩|⟨Lu,p'⟩
   ·rfl
   ·rw[vC Lu]at h2;have Rp:V.ref a=V.ref b:=by
     rcases bO h1 with⟨_,z⟩|⟨z,_⟩
     ·exact vK z
     ·exact absurd rfl z
    cases Rp
    exact absurd h2 (Je k f p')
  ·rcases bO q' with⟨rfl,p'⟩|⟨Lu,p'⟩
   ·rw[vC ne]at h1;have Od:V.ref a=V.ref b:=by
     rcases bO h2 with⟨_,z⟩|⟨z,_⟩
     ·exact vK z
     ·exact absurd rfl z
    cases Od
    exact absurd h1 (Je j e p)
   ·rw[vC ne]at h1;rw[vC Lu]at h2;exact s.inj j k b e f p p' h1 h2
end
inductive Res where
 |nx (ρ:Env)|rt (d:D) (b:Bool)|bk (ρ:Env)|ct (ρ:Env)
abbrev FS:=Env->Option Res
def JV (K:Frag)(B0 H0:Hp)(E:Ends):Res->Prop
 |.nx ρ=>∀σ H,uw K B0 H0 H σ ρ->E.nx σ H
 |.rt d b=>∀v H N,Ext B0 N H0 H->Is K N v d->(b=true->IM K H0 N v d)->E.rt v H
 |.bk ρ=>∀σ H,uw K B0 H0 H σ ρ->E.bk σ H
 |.ct ρ=>∀σ H,uw K B0 H0 H σ ρ->E.ct σ H
def qz (K:Frag)(g:FS):TS:=λE σ H=>∃(B0 H0:Hp)(ρ:Env)(r:Res),uw K B0 H0 H σ ρ/\g ρ=some r/\JV K B0 H0 E r
section
variable {K:Frag}{B0 H0 N H H':Hp}{σ:St}{ρ:Env}{E:Ends}
theorem dP.writeB (s:dP K B0 H0 N H σ ρ)(hi:ρ[i]? = some (some (d,true)))(hσ:σ[i]? = some (some (V.ref a)))(h:Bx K (dw N (own σ ρ)) ob dd):
  dP K B0 H0 (upd N a ob) (upd H a ob) σ (ρ.set i (some (dd,true))):=by
 have oa:own σ ρ a:=⟨i,d,hi,hσ⟩;obtain⟨ws,hw,h0⟩:=s.owned oa;have b0:B0 a=none:=s.bh.free h0;have o:∀b,own σ (ρ.set i (some (dd,true))) b↔own σ ρ b:=λb=>by
  constructor
  ·rintro⟨j,e,q1,q2⟩;rcases bO q1 with⟨rfl,p⟩|⟨_,p⟩
   ·exact⟨i,d,hi,q2⟩
   ·exact⟨j,e,p,q2⟩
  ·rintro⟨j,e,q1,q2⟩;by_cases z:i=j
   ·subst z;exact⟨i,dd,by rw[List.getElem?_set_self (vV hi).1],q2⟩
   ·exact⟨j,e,by rw[vC z];exact q1,q2⟩
 have c:aQ (dw N (own σ ρ)) (dw (upd N a ob) (own σ (ρ.set i (some (dd,true))))):=fP λb u e q=>by
  have ne:b≠a:=λz=>q (z ▸ oa);exact⟨by rw[aA ne];exact e,λz=>q ((o b).mp z)⟩
 refine⟨s.bh,s.tb,⟨λb u e=>?_,λb u e=>?_,λb u e=>?_,λb u e=>?_⟩,by rw[List.length_set];exact s.len,λj e q=>?_,λj e q=>?_,λj k b e f q q' h1 h2=>?_⟩
 ·rw[aA (λz=>by subst z;rw[h0]at e;cases e)];exact s.ext.hh _ _ e
 ·rw[aA (λz=>by subst z;rw[b0]at e;cases e)];exact s.ext.bn _ _ e
 ·by_cases z:b=a
  ·subst z;rw[av]at e ⊢;exact e
  ·rw[aA z]at e ⊢;exact s.ext.nh _ _ e
 ·by_cases z:b=a
  ·subst z;exact .inr h0
  ·rw[aA z]at e;exact s.ext.new _ _ e
 ·rcases bO q with⟨rfl,p⟩|⟨ne,p⟩
  ·cases p
  ·obtain⟨v,h1,h2⟩:=s.sh j e p;exact⟨v,h1,h2.mono c⟩
 ·rcases bO q with⟨rfl,p⟩|⟨ne,p⟩
  ·cases p
   exact⟨a,ob,hσ,av,h0,h.mono c⟩
  ·obtain⟨a',o',h1,h2,h3,h4⟩:=s.ow j e p;have na:a'≠a:=λz=>by subst z;exact ne (s.inj i j _ d e hi p hσ h1)
   exact⟨a',o',h1,by rw[aA na];exact h2,h3,h4.mono c⟩
 ·have get:∀ {j:Nat}{e:D},(ρ.set i (some (dd,true)))[j]? = some (some (e,true))->∃e',ρ[j]? = some (some (e',true)):=λ{j e} q=>by
   rcases bO q with⟨rfl,p⟩|⟨ne,p⟩
   ·exact⟨d,hi⟩
   ·exact⟨e,p⟩
  obtain⟨e',q1⟩:=get q;obtain⟨f',q2⟩:=get q';exact s.inj j k b e' f' q1 q2 h1 h2
theorem dP.write (s:dP K B0 H0 N H σ ρ)(hi:ρ[i]? = some (some (d,true)))(hσ:σ[i]? = some (some (V.ref a)))(h:IsL K (dw N (own σ ρ)) vs ds):
  dP K B0 H0 (upd N a (.lst vs)) (upd H a (.lst vs)) σ (ρ.set i (some (.lst ds,true))):=s.writeB hi hσ (.lst h)
theorem dP.tups (s:dP K B0 H0 N H σ ρ):∀a vs,gA K N a vs->gA K (dw N (own σ ρ)) a vs:=λa vs h=>by
 have key:∀u,N a=some u->¬boxed u->dw N (own σ ρ) a=some u:=λu e hu=>by
  rw[cG λz=>?_];exact e;obtain⟨ws,⟨q,qb⟩,_⟩:=s.owned z;rw[e]at q;cases q;exact hu qb
 rcases h with (h|⟨o,h⟩)|h
 ·exact .inl (.inl (key _ h (λq=>q)))
 ·exact .inl (.inr ⟨o,key _ h (λq=>q)⟩)
 ·exact .inr h
theorem dP.flat (s:dP K B0 H0 N H σ ρ)(h:Is K N v d)(n:b9 d=true):Is K (dw N (own σ ρ)) v d:=h.keepT s.tups n
theorem dP.flats (s:dP K B0 H0 N H σ ρ)(h:IsL K N v d)(n:bR d=true):IsL K (dw N (own σ ρ)) v d:=h.keepT s.tups n
theorem dP.rebase (s:dP K B0 H0 N H σ ρ):dP K (dw N (own σ ρ)) (dw H (own σ ρ)) N H σ ρ :=
 ⟨fP λa o e q=>⟨s.ext.nh _ _ e,q⟩,s.tbC,⟨bJ,bJ,s.ext.nh,λa o e=>by
  by_cases q:own σ ρ a
  ·exact .inr (uv q)
  ·exact .inl (by rw[cG q];exact e)⟩,s.len,s.sh,λi d q=>by
   obtain⟨a,o,h1,h2,_,h4⟩:=s.ow i d q;exact⟨a,o,h1,h2,uv ⟨i,d,q,h1⟩,h4⟩,s.inj⟩
theorem dP.unbase (s:dP K B0 H0 N H σ ρ)(t:dP K (dw N (own σ ρ)) (dw H (own σ ρ)) N' H' σ' ρ'):dP K B0 H0 N' H' σ' ρ':=by
 have h0:aQ H0 (dw H (own σ ρ)):=λa o e=>by
  rw[cG λz=>?_];exact s.ext.hh _ _ e;obtain⟨_,_,q⟩:=s.owned z;rw[q]at e;cases e
 have b0:aQ B0 (dw N (own σ ρ)):=λa o e=>by
  rw[cG λz=>?_];exact s.ext.bn _ _ e;obtain⟨_,_,q⟩:=s.owned z;rw[s.bh _ _ e]at q;cases q
 refine⟨s.bh,s.tb,⟨h0.trans t.ext.hh,b0.trans t.ext.bn,t.ext.nh,λa o e=>?_⟩,t.len,t.sh,λi d q=>?_,t.inj⟩
 ·rcases t.ext.new a o e with z|z
  ·exact s.ext.new a o (bJ _ _ z)
  ·exact .inr (h0.free z)
 ·obtain⟨a,o,h1,h2,h3,h4⟩:=t.ow i d q;exact⟨a,o,h1,h2,h0.free h3,h4⟩
theorem dP.based (t:dP K B0 H0 N H σ ρ):aQ B0 (dw N (own σ ρ)):=λa o e=>by
 rw[cG λz=>?_];exact t.ext.bn _ _ e;obtain⟨_,_,q⟩:=t.owned z;rw[t.bh _ _ e]at q;cases q
@[simp] noncomputable def ay (g h:FS):FS:=λρ=>match g ρ with|some (.nx ρ')=>h ρ'|r=>r
@[simp] noncomputable def aJ:FS:=λρ=>some (.nx ρ)
@[simp] noncomputable def cY (c:FT)(g h:FS):FS:=λρ=>match c ρ with|some true=>g ρ|some false=>h ρ|none=>none
@[simp] noncomputable def aI (f:FE):FS:=λρ=>(f ρ).map λx=>.rt x.1 x.2
@[simp] noncomputable def ET:D->Bool
 |.dk _ _=>true
 |.dt _ _=>true
 |_=>false
@[simp] def mC (i:Nat):FS:=λρ=>match ρ[i]? with|some (some (d,b))=>some (.rt d (b && !ET d))|_=>none
@[simp] def rG:D->Bool
 |.lst ds=>bR ds
 |_=>false
@[simp] def setE (ρ:Env)(i:Nat)(d:D)(b:Bool):Env :=
 if b9 d=true then ρ.set i (some (d,false))else if b=true/\rG d=true then ρ.set i (some (d,true))else (unown ρ).set i (some (d,false))
@[simp] def aP (i:Nat)(f:FE):FS:=λρ=>(f ρ).map λx=>.nx (setE ρ i x.1 x.2)
@[simp] def Pj (i:Nat)(f:FE):FS:=λρ=>(f (kh ρ)).map λx=>.nx (ρ.set i (some (x.1,false)))
@[simp] def rH (i:Nat)(f:FE):FS:=λρ=>match ρ[i]? with
 |some (some (.lst ds,true))=>(f ρ).bind λx=>if b9 x.1=true/\ds.length<sizeLine then some (.nx (ρ.set i (some (.lst (ds++[x.1]),true))))else none
 |_=>none
theorem wI (q:qz K (ay g h) E σ H):ud (qz K g) (qz K h) E σ H:=by
 obtain⟨B0,H0,ρ,r,s,e,p⟩:=q;unfold ay at e;cases eg:g ρ with
 |none=>rw[eg]at e;cases e
 |some r1=>
  rw[eg]at e;cases r1 with
  |nx ρ'=>exact⟨B0,H0,ρ,.nx ρ',s,eg,λσ' H' s'=>⟨B0,H0,ρ',r,s',e,p⟩⟩
  |rt d b=>cases e;exact⟨B0,H0,ρ,_,s,eg,p⟩
  |bk ρ'=>cases e;exact⟨B0,H0,ρ,_,s,eg,p⟩
  |ct ρ'=>cases e;exact⟨B0,H0,ρ,_,s,eg,p⟩
theorem rJ (q:qz K aJ E σ H):wy E σ H:=by
 obtain⟨B0,H0,ρ,r,s,e,p⟩:=q;cases e
 exact p σ H s
theorem uw.grown (s:dP K B0 H0 N H σ ρ)(h:aQ H H'):uw K B0 H0 H' σ ρ:=⟨N,s.grow (.grow s.ext.nh h)⟩
theorem Ag (q:qz K (cY c g h) E σ H):C5 (uu K c) (qz K g) (qz K h) E σ H:=by
 obtain⟨B0,H0,ρ,r,⟨N,s⟩,e,p⟩:=q;unfold cY at e;cases ec:c ρ with
 |none=>rw[ec]at e;cases e
 |some b=>
  rw[ec]at e;refine⟨N,ρ,b,s.ext.nh,s.rep,ec,λH1 h1=>?_⟩;cases b with
  |true=>rw[if_pos rfl];exact⟨B0,H0,ρ,r,.grown s h1,e,p⟩
  |false=>rw[if_neg (by decide)];exact⟨B0,H0,ρ,r,.grown s h1,e,p⟩
theorem q0 (q:qz K (aI f) E σ H):C4 (tD K f) E σ H:=by
 obtain⟨B0,H0,ρ,r,⟨N,s⟩,e,p⟩:=q;obtain⟨x,ex,e⟩:=oY e;subst e;exact⟨N,ρ,x.1,x.2,s.ext.nh,s.rep,ex,λv H1 N1 x1 i1 f1=>p v H1 N1 (s.ext.trans x1) i1 λb=>(f1 b).back s.ext.hh⟩
theorem Ah (q:qz K (mC i) E σ H):C4 (rq i) E σ H:=by
 obtain⟨B0,H0,ρ,r,⟨N,s⟩,e,p⟩:=q;unfold mC at e;split at e
 ·rename_i d b ei;cases e
  cases b with
  |false=>
   obtain⟨v,h1,h2⟩:=s.sh i d ei;exact⟨v,h1,p v H N s.ext (h2.mono bJ) (by simp)⟩
  |true=>
   obtain⟨a,o,h1,h2,h3,h4⟩:=s.ow i d ei;cases h4 with
   |lst h4=>exact⟨_,h1,p _ H N s.ext (.lst (fO.of h2) (h4.mono bJ)) λ_=>⟨a,_,_,rfl,rfl,h3,h2,h4.mono bJ⟩⟩
   |dk hl h4=>exact⟨_,h1,p _ H N s.ext (.dk h2 hl (h4.mono bJ)) (by simp)⟩
   |dt hl h4=>exact⟨_,h1,p _ H N s.ext (.dt h2 hl (h4.mono bJ)) (by simp)⟩
 ·cases e
theorem dP.setE (s:dP K B0 H0 N H σ ρ)(x:Ext N N1 H H1)(h:Is K N1 v d)(f:b=true->IM K H N1 v d):dP K B0 H0 N1 H1 (σ.set i (some v)) (setE ρ i d b):=by
 have s1:=s.grow x;unfold DL.setE;by_cases hn:b9 d=true
 ·rw[if_pos hn];exact s1.bind (s1.flat h hn)
 ·rw[if_neg hn];by_cases hb:b=true/\rG d=true
  ·rw[if_pos hb];obtain⟨a,vs,ds,rfl,rfl,ha,hN,hs⟩:=f hb.1;have P9:N a=none:=s.ext.nh.free ha;have Rq:¬own σ ρ a:=λz=>by obtain⟨ws,⟨q,_⟩,_⟩:=s.owned z;rw[P9]at q;cases q
   have c:aQ (dw N (own σ ρ)) (dw N1 (λb=>own σ ρ b∨b=a)):=fP λb u e q=>⟨x.bn _ _ e,λz=>z.elim q λz=>by subst z;rw[P9]at e;cases e⟩;refine s1.bindOwn hN (s.ext.hh.free ha) (λj e q z=>Rq ⟨j,e,q,z⟩) (λj e _ q=>?_) (λj e _ q=>?_) (.lst (hs.keepT (λt ts st=>?_) hb.2))
   ·obtain⟨w,h1,h2⟩:=s.sh j e q;exact⟨w,h1,h2.mono c⟩
   ·obtain⟨a',o',h1,h2,_,h4⟩:=s.ow j e q;exact⟨a',o',h1,x.bn _ _ h2,h4.mono c⟩
   ·have key:∀u,N1 t=some u->¬boxed u->dw N1 (λb=>own σ ρ b∨b=a) t=some u:=λu e hu=>by
     rw[cG λz=>?_];exact e;rcases z with z|z
     ·obtain⟨ws,⟨q,qb⟩,_⟩:=s1.owned z;rw[e]at q;cases q;exact hu qb
     ·subst z;rw[e]at hN;cases hN;exact hu trivial
    rcases st with (st|⟨o,st⟩)|st
    ·exact .inl (.inl (key _ st (λq=>q)))
    ·exact .inl (.inr ⟨o,key _ st (λq=>q)⟩)
    ·exact .inr st
  ·rw[if_neg hb];exact s1.unown.bind (h.mono λa o e=>by rw[cG oW];exact e)
theorem q8 (q:qz K (aP i f) E σ H):rz (tD K f) (gI i) E σ H:=by
 obtain⟨B0,H0,ρ,r,⟨N,s⟩,e,p⟩:=q;obtain⟨x,ex,e⟩:=oY e;subst e;exact⟨N,ρ,x.1,x.2,s.ext.nh,s.rep,ex,λv H1 N1 x1 i1 f1=>p _ H1 ⟨N1,s.setE x1 i1 f1⟩⟩
theorem CW (q:qz K (rH i f) E σ H):∃(a:Addr)(us:List V),σ[i]? = some (some (V.ref a))/\H a=some (.lst us)/\iK (tD K f) r6 σ H λxs H2=>wH (.ref a) xs H2 λ_ H3=>E.nx σ H3:=by
 obtain⟨B0,H0,ρ,r,⟨N,s⟩,e,p⟩:=q;unfold rH at e;split at e
 ·rename_i ds ei;obtain⟨x,ex,e⟩:=oX e;split at e
  ·rename_i hx;cases e
   obtain⟨a,vs,BZ,z,h1,h2,h3,h4⟩:=s.owL i _ ei;cases z
   refine⟨a,vs,h1,s.ext.nh _ _ h2,N,ρ,x.1,x.2,s.ext.nh,s.rep,ex,λv H1 N1 x1 i1 f1=>⟨a,vs,v,rfl,rfl,x1.hh _ _ (s.ext.nh _ _ h2),by rw[h4.length];exact hx.2,?_⟩⟩;have s1:=s.grow x1;obtain⟨a',Mz,BZ,z,k1,k2,_,k4⟩:=s1.owL i _ ei;cases z
   rw[h1]at k1;cases k1;rw[x1.bn _ _ h2]at k2;cases k2;exact p σ _ ⟨_,s1.write ei h1 (k4.append (.cons (s1.flat i1 hx.1) .nil))⟩
  ·cases e
 ·cases e
end
noncomputable def Ai (c:FT)(g:FS):Nat->Env->Option Res
 |0,_=>none
 |n+1,ρ=>match c ρ with
  |some true=>match g ρ with
   |some (.nx ρ')=>Ai c g n ρ'
   |some (.ct ρ')=>Ai c g n ρ'
   |some (.bk ρ')=>some (.nx ρ')
   |r=>r
  |some false=>some (.nx ρ)
  |none=>none
def lS (K:Frag)(J:It)(B:Hp)(ds:List D):Prop:=∀(i:Nat)(H:Hp),aQ B H ->
 (∀d,ds[i]? = some d->J.go i H/\∀x H',J.yld i H x H'->∃N,Ext B N H H'/\Is K N x d)/\(ds.length<=i->J.stop i H)
def Pk (K:Frag)(f:FA):TI:=λσ H R=>∃(B:Hp)(ρ:Env)(ds:List D),aQ B H/\eA K B σ ρ/\f ρ=some ds/\∀(J:It)(H' N:Hp),Ext B N H H'->lS K J N ds->R J H'
abbrev FG:=D->Env->Option Env
def Cp (K:Frag)(tg:FG)(g:TG):Prop:=∀(B0 H0 N H:Hp)(σ:St)(ρ ρ':Env)(v:V)(d:D)(Q:St->Hp->Prop),dP K B0 H0 N H σ ρ->Is K (dw N (own σ ρ)) v d->tg d ρ=some ρ' ->
 (∀σ' H',uw K B0 H0 H' σ' ρ'->Q σ' H')->g v σ H Q
@[simp] noncomputable def eC (i:Nat):FG:=λd ρ=>some (ρ.set i (some (d,false)))
theorem fQ:Cp K (eC i) (gI i):=by
 intro B0 H0 N H σ ρ ρ' v d Q s h e k;cases e
 exact k _ H ⟨N,s.bind h⟩
noncomputable def eD (tg:FG)(g:FS):List D->Env->Option Res
 |[],ρ=>some (.nx ρ)
 |d::ds,ρ=>(tg d ρ).bind λρ1=>match g ρ1 with
  |some (.nx ρ')=>eD tg g ds ρ'
  |some (.ct ρ')=>eD tg g ds ρ'
  |some (.bk ρ')=>some (.nx ρ')
  |r=>r
@[simp] theorem Aj (tg:FG)(g:FS)(ρ:Env):eD tg g [] ρ=some (.nx ρ):=by rw[eD]
@[simp] theorem jl (tg:FG)(g:FS)(d:D)(ds:List D)(ρ:Env):eD tg g (d::ds) ρ=(tg d ρ).bind λρ1=>match g ρ1 with
  |some (.nx ρ')=>eD tg g ds ρ'
  |some (.ct ρ')=>eD tg g ds ρ'
  |some (.bk ρ')=>some (.nx ρ')
  |r=>r:=by rw[eD]
@[simp] def mD (f:FA)(tg:FG)(g:FS):FS:=λρ=>(f (kh ρ)).bind λds=>eD tg g ds ρ
theorem rK (ht:Cp K tg t)(s1:dP K B0 H0 N H1 σ ρ)(c:aQ N1 (dw N (own σ ρ)))(J1:lS K J N1 ds)(e:eD tg g ds ρ=some r)(p:JV K B0 H0 E r):
  ∃W:Nat->Nat->St->Hp->Prop,(∃m,W 0 m σ H1)/\∀i m σ H,W i m σ H->(J.stop i H/\E.nx σ H)∨(J.go i H/\∃N:St->Hp->Prop,(∀σ' H',N σ' H'->∃m',m'<m/\W (i+1) m' σ' H')/\∀x H',J.yld i H x H'->t x σ H' λσ2 H2=>qz K g { E with nx:=N,ct:=N,bk:=E.nx } σ2 H2):=by
 refine⟨λi m σ H=>∃(N:Hp)(ρ:Env),dP K B0 H0 N H σ ρ/\aQ N1 (dw N (own σ ρ))/\m=ds.length - i/\i<=ds.length/\eD tg g (ds.drop i) ρ=some r,⟨ds.length,_,ρ,s1,c,rfl,uM _,e⟩,?_⟩;clear e s1 c;rintro i m σ H ⟨N,ρ,s,c,rfl,hi,e⟩;have hs:aQ N1 H:=c.trans (bJ.trans s.ext.nh);obtain⟨j1,j2⟩:=J1 i H hs;by_cases gs:i<ds.length
 ·obtain⟨go,yl⟩:=j1 ds[i] (by simp[gs]);rw[List.drop_eq_getElem_cons gs]at e;obtain⟨ρ1,e1,e⟩:=oX e;refine .inr ⟨go,λσ' H'=>∃(N:Hp)(ρ:Env),dP K B0 H0 N H' σ' ρ/\aQ N1 (dw N (own σ' ρ))/\eD tg g (ds.drop (i+1)) ρ=some r,λσ' H' ⟨N',ρ',s',c',e'⟩=>⟨_,by omega,N',ρ',s',c',rfl,gs,e'⟩,λx H' y=>?_⟩;obtain⟨N2,x2,i2⟩:=yl x H' y;have x3:Ext (dw N (own σ ρ)) (join (dw N (own σ ρ)) N2) H H':=by
   refine⟨x2.hh,dI,λa o e=>?_,λa o e=>?_⟩
   ·cases q:dw N (own σ ρ) a with
    |some u=>rw[dI _ _ q]at e;cases e;exact x2.hh _ _ (s.ext.nh _ _ (bJ _ _ q))
    |none=>rw[dj q]at e;exact x2.nh _ _ e
   ·cases q:dw N (own σ ρ) a with
    |some u=>rw[dI _ _ q]at e;cases e;exact .inl rfl
    |none=>
     rw[dj q]at e;rcases x2.new a o e with z|z
     ·rw[c _ _ z]at q;cases q
     ·exact .inr z
  obtain⟨s2,c2⟩:=s.growH x3;have c3:aQ N2 (join (dw N (own σ ρ)) N2):=λa o e=>by
   rcases x2.new a o e with z|z
   ·exact dI _ _ (c _ _ z)
   ·rw[dj ((bJ.trans s.ext.nh).free z)];exact e
  have i3:=i2.mono (c3.trans c2);have c4:aQ N1 (dw (join N (join (dw N (own σ ρ)) N2)) (own σ ρ)):=(x2.bn.trans c3).trans c2;refine ht _ _ _ _ _ _ _ _ _ _ s2.rebase i3 e1 λσ2 H2 ⟨N4,s4⟩=>?_;cases eg:g ρ1 with
  |none=>rw[eg]at e;cases e
  |some r1=>
   rw[eg]at e;refine⟨_,_,ρ1,r1,⟨N4,s4⟩,eg,?_⟩;have back:∀ {σ':St}{H':Hp}{ρ':Env}{N':Hp},dP K _ _ N' H' σ' ρ'->dP K B0 H0 N' H' σ' ρ'/\aQ N1 (dw N' (own σ' ρ')):=λt=>⟨s2.unbase t,c4.trans t.based⟩;cases r1 with
   |nx ρ'=>exact λσ' H' ⟨N',t⟩=>⟨N',ρ',(back t).1,(back t).2,e⟩
   |ct ρ'=>exact λσ' H' ⟨N',t⟩=>⟨N',ρ',(back t).1,(back t).2,e⟩
   |bk ρ'=>cases e;exact λσ' H' ⟨N',t⟩=>p σ' H' ⟨N',(back t).1⟩
   |rt d b=>
    cases e
    intro v H' N' x' i' f';have y:=s2.rebase.ext;have h0:aQ H0 (dw H' (λ_=>False)):=λa o e=>by rw[cG (λz=>z)];exact x'.hh _ _ (by
     rw[cG λz=>?_];exact s2.ext.hh _ _ e;obtain⟨_,_,q⟩:=s2.owned z;rw[q]at e;cases e)
    have SW:aQ H0 (dw H' (λ_=>False)):=h0;have hH:aQ H0 (dw H' (λ_=>False)):=h0;have hc:∀a,dw H' (λ_=>False) a=H' a:=λa=>cG (λz=>z);have hb:aQ H0 (dw _ (own σ ρ)):=λa o e=>by
     rw[cG λz=>?_];exact s2.ext.hh _ _ e;obtain⟨_,_,q⟩:=s2.owned z;rw[q]at e;cases e
    have bb:aQ B0 (dw _ (own σ ρ)):=λa o e=>by
     rw[cG λz=>?_];exact s2.ext.bn _ _ e;obtain⟨_,_,q⟩:=s2.owned z;rw[s2.bh _ _ e]at q;cases q
    refine p v H' N' ⟨hb.trans x'.hh,bb.trans x'.bn,x'.nh,λa o e=>?_⟩ i' λz=>(f' z).back hb;rcases x'.new a o e with z|z
    ·exact s2.ext.new a o (bJ _ _ z)
    ·exact .inr (hb.free z)
 ·have ei:i=ds.length:=by omega
  subst ei;rw[List.drop_eq_nil_of_le (vT _)]at e;cases e
  exact .inl ⟨j2 (vT _),p σ H ⟨N,s⟩⟩
theorem CY (ht:Cp K tg t)(q:qz K (mD f tg g) E σ H):Gu (Pk K f) t (qz K g) E σ H:=by
 obtain⟨B0,H0,ρ,r,⟨N,s⟩,e,p⟩:=q;obtain⟨ds,ef,e⟩:=oX e;refine⟨dw N (own σ ρ),kh ρ,ds,bJ.trans s.ext.nh,s.repH,ef,λJ H1 N1 x1 J1=>?_⟩;obtain⟨s1,c⟩:=s.growH x1;exact rK ht s1 c J1 e p
def IN (K:Frag)(f:FA):TI:=λσ H R=>∃(B:Hp)(ρ:Env)(ds:List D),aQ B H/\eA K B σ ρ/\f ρ=some ds/\∀(J:It)(H' N:Hp),Ext B N H H'->(∀B',lS K J B' ds)->R J H'
@[simp] def gK (f:FA)(tg:FG)(g:FS):FS:=λρ=>(f ρ).bind λds=>eD tg g ds ρ
theorem rL (ht:Cp K tg t)(q:qz K (gK f tg g) E σ H):Gu (IN K f) t (qz K g) E σ H:=by
 obtain⟨B0,H0,ρ,r,⟨N,s⟩,e,p⟩:=q;obtain⟨ds,ef,e⟩:=oX e;refine⟨N,ρ,ds,s.ext.nh,s.rep,ef,λJ H1 N1 x1 J1=>?_⟩;exact rK ht (s.grow x1) (aQ.refl _) (J1 _) e p
end DL
namespace DL
open PySem PySem.Spec PyProof.Rows L2
abbrev JE (X:Cx)(e:Expr)(f:FE):Prop:=PE X e (tD X.K f)
abbrev JT (X:Cx)(e:Expr)(f:FT):Prop:=PT X e (uu X.K f)
abbrev JW (X:Cx)(e:Expr)(f:FT):Prop:=PW X e (uu X.K f)
abbrev JA (X:Cx)(es:List Expr)(f:FA):Prop:=PA X es (JU X.K f)
abbrev JS (X:Cx)(st:Stmt)(g:FS):Prop:=PS X st (qz X.K g)
abbrev rg (X:Cx)(st:List Stmt)(g:FS):Prop:=lD X st (qz X.K g)
abbrev JI (X:Cx)(tg cj:Expr)(f:FA):Prop:=PI X tg cj (Pk X.K f)
def GI (M:Model)(A:Around)(oo:List Expr)(oF:Expr)(env:PySem.Env)(gZ:Value)(E:Value->Shared->Prop)(P:Shared->Prop):Shared->Prop :=
 wpAny M A (forIn oo true λc r=>if r=true then do let ok ←isTrue c env (eval c env);pure (ForInStep.yield ok)else pure (ForInStep.yield r))
  (λok s₃=>if ok=true then wpAny M A (eval oF env) (λx=>wpAny M A (call (.builtin "list.append") [gZ,x]) (λ_=>P) E) E s₃ else P s₃) E
theorem q9 {E:Value->Shared->Prop}(hE:∀x s,¬E x s)(I:Nat->Shared->Prop)
  (Il:∀n s,I n s->wpAny (model prog w) A (pyNext it) (λr s₁=>match r with
   |none=>R (.ok .next) s₁
   |some v=>wpAny (model prog w) A (letOwnedTupleGo oi it v) (λ_=>wpAny (model prog w) A (assign oi env v) (λ_=>GI (model prog w) A oo oF env gZ E λs=>∃m,m<n/\I m s) E) E s₁) E s)
  (n:Nat) (h:I n s):codeAny (model prog w) A (.compLoop (.ListComp oF [⟨oi,cj,oo,0⟩] scope pos) 0 it gZ env) R s:=by
 refine codeAny_loop rfl I (λn s hI=>?_) n h;show wpAny _ A ((compTurn (.ListComp oF [⟨oi,cj,oo,0⟩] scope pos) 0 it gZ env).onRaise (λx=>do noteFrame x env;theTreesLotGoes x)) _ _ s;refine wpAny_noted (wpAny_mono (E:=E) ?_ (λ_ _ q=>q) λ_ _ z=>(hE _ _ z).elim);rw[compTurn_list];refine wX (wpAny_standAt (wX (cb (Il n s hI) λr s₁ h₁=>?_)));cases r with
 |none=>exact wY h₁
 |some v=>
  refine wX (cb h₁ λ_ s₁ h₁=>wX (cb h₁ λ_ s₂ h₂=>wX (cb h₂ λok s₃ h₃=>?_)));cases ok with
  |false=>exact wY ⟨rfl,h₃⟩
  |true=>exact wX (wX (cb h₃ λx s₄ h₄=>wX (cb h₄ λ_ s₅ h₅=>wY (wY ⟨rfl,h₅⟩))))
theorem Ext.upd (x:Ext B N H H')(h:H a=none)(hN:N a=none):Ext B N H (upd H' a o) :=
 ⟨λb u e=>by rw[aA (λz=>by subst z;rw[h]at e;cases e)];exact x.hh _ _ e,x.bn,λb u e=>by rw[aA (λz=>by subst z;rw[hN]at e;cases e)];exact x.nh _ _ e,x.new⟩
noncomputable abbrev gB (X:Cx)(N':List Str)(scope:Scope)(cl:List (Str×Addr))(C:Addr)(s₃:Shared)(H₃:Hp)(fp:List Addr):Cx :=
 { X with N:=N',s₀:=s₃,H₀:=H₃,env:=compEnvC scope cl C X.env,outer:=X.stack,stack:=X.stack,ex:=fp,fn:=λ_=>false,pn:=[],xe:=λ_ _=>False }
inductive kX (X:Cx)(N':List Str)(scope:Scope)(cl:List (Str×Addr)):Nat->List Nat->Prop where
 |nil {j:Nat}(h:N'.length=j):kX X N' scope cl j []
 |cons {j i:Nat}{r:List Nat}{x:Str}(h1:N'[j]? = some x) (h2:X.N[i]? = some x) (h3:X.env.kindOf x=some .cell∨X.env.kindOf x=some .free)
   (h4:(relabel scope X.env).names.lookup x=some .cell∨(relabel scope X.env).names.lookup x=some .free) (h5:cl.lookup x=X.env.cells.lookup x) (t:kX X N' scope cl (j+1) r):kX X N' scope cl j (i::r)
theorem kX.len:∀ {j:Nat}{cap:List Nat},kX X N' scope cl j cap->N'.length=j+cap.length
 |_,_,.nil h=>by rw[h];rfl
 |j,i::r,.cons _ _ _ _ _ t=>by rw[t.len,vE];omega
theorem kX.get:∀ {j:Nat}{cap:List Nat}{k i:Nat},kX X N' scope cl j cap->cap[k]? = some i->∃x,N'[j+k]? = some x/\X.N[i]? = some x/\(X.env.kindOf x=some .cell∨X.env.kindOf x=some .free) /\
  ((relabel scope X.env).names.lookup x=some .cell∨(relabel scope X.env).names.lookup x=some .free)/\cl.lookup x=X.env.cells.lookup x
 |_,_,_,_,.nil _,e=>by simp at e
 |j,_,0,_,.cons h1 h2 h3 h4 h5 _,e=>by simp at e;subst e;exact⟨_,h1,h2,h3,h4,h5⟩
 |j,_,k+1,i,.cons _ _ _ _ _ t,e=>by
  obtain⟨x,q,r⟩:=t.get (k:=k) (i:=i) (by simpa using e);exact⟨x,by rw[show j+(k+1)=j+1+k by omega];exact q,r⟩
structure CompSc (X:Cx)(scope:Scope)(cl:List (Str×Addr)):Prop where
 clos:closureFor scope X.env=pure cl
 nocell:∀y∈scope.names,y.2≠.cell
 kind:scope.kind=.function
 names:∀y∈scope.names,y.2=.local->scope.names.lookup y.1=some .local
 sub:∀x c,cl.lookup x=some c->X.env.cells.lookup x=some c
 has:∀x,((relabel scope X.env).names.lookup x=some .cell∨(relabel scope X.env).names.lookup x=some .free)->∃c,cl.lookup x=some c
noncomputable def dS:List (Str×NameKind)->List (Str×Addr)->List (Str×Addr)->List (Str×Addr)
 |[],_,cs=>cs
 | (n,k)::r,cells,cs=>dS r cells (if k == .free then (match cells.lookup n with|some c=>(n,c)::cs|none=>cs)else cs)
theorem yu:∀(names:List (Str×NameKind))(cs:List (Str×Addr)),(∀y∈names,y.2=.free->(env.cells.lookup y.1).isSome=true) ->
    (do let mut cs:=cs
        for (name,kind)in names do
          if kind == .free then cs:=(name,←cellOf env name)::cs
        return cs:Sem (List (Str×Addr)))=pure (dS names env.cells cs):=by
  intro names;induction names with
  |nil=>intro cs _;rfl
  |cons y r ih=>
    intro cs h;obtain⟨n,k⟩:=y;have Ly:=λcs=>ih cs λy hy=>h y (mZ _ hy);by_cases hk:k=.free
    . subst hk;have hc:=h (n,.free) mX rfl;cases q:env.cells.lookup n with
      |none=>rw[q]at hc;cases hc
      |some c=>
        have e1:dS ((n,.free)::r) env.cells cs=dS r env.cells ((n,c)::cs):=by
          rw[dS,q];rfl
        rw[e1,←Ly ((n,c)::cs)];have e2:cellOf env n=pure c:=by unfold cellOf;rw[q]
        simp only[List.forIn_cons,beq_self_eq_true,if_true,e2];rfl
    . have hb:(k == NameKind.free)=false:=by simpa using hk
      have e1:dS ((n,k)::r) env.cells cs=dS r env.cells cs:=by rw[dS,hb];rfl
      rw[e1,←Ly cs];simp only[List.forIn_cons,hb,uW,if_false];rfl
theorem mE:∀(names:List (Str×NameKind))(cs:List (Str×Addr)),(∀y d,cs.lookup y=some d->cells.lookup y=some d)->(dS names cells cs).lookup x=some c->cells.lookup x=some c
 |[],cs,h,e=>h x c e
 | (n,k)::r,cs,h,e=>by
  rw[dS]at e;refine mE r _ (λy d q=>?_) e;split at q
  ·split at q
   ·rename_i c' ec;rw[List.lookup_cons]at q;split at q
    ·rename_i hy;cases q
     rw[eq_of_beq hy];exact ec
    ·exact h y d q
   ·exact h y d q
  ·exact h y d q
theorem pb:∀(names:List (Str×NameKind))(cs:List (Str×Addr)),(cs.lookup x).isSome=true->((dS names cells cs).lookup x).isSome=true
 |[],cs,h=>h
 | (n,k)::r,cs,h=>by
  rw[dS];refine pb r _ ?_;split
  ·split
   ·rw[List.lookup_cons];split
    ·rfl
    ·exact h
   ·exact h
  ·exact h
theorem mF:∀(names:List (Str×NameKind))(cs:List (Str×Addr)),(x,NameKind.free)∈names->(cells.lookup x).isSome=true->((dS names cells cs).lookup x).isSome=true
 | (n,k)::r,cs,hm,hc=>by
  rw[dS];rcases vP hm with e|e
  ·cases e
   refine pb r _ ?_;cases q:cells.lookup x with
   |none=>rw[q]at hc;cases hc
   |some c=>simp
  ·exact mF r _ e hc
theorem jF {α:Type}{x:Str}{k:α}:∀ {l:List (Str×α)},l.lookup x=some k->(x,k)∈l
 | (n,j)::r,h=>by
  rw[List.lookup_cons]at h;split at h
  ·rename_i e;cases h
   rw[eq_of_beq e];exact mX
  ·exact mZ _ (jF h)
theorem GJ {X:Cx}{scope:Scope}(h1:∀y∈scope.names,y.2≠.cell)(h2:scope.kind=.function)(h3:∀y∈scope.names,y.2=.local->scope.names.lookup y.1=some .local)(Og:(scope.names.all λy=>!(y.2 == NameKind.free) || (X.env.cells.lookup y.1).isSome)=true):
  CompSc X scope (dS scope.names X.env.cells []):=by
 have h4:∀y∈scope.names,y.2=.free->(X.env.cells.lookup y.1).isSome=true:=λy hy e=>by
  have:=uR Og y hy;rw[e]at this;simpa using this
 have frees:∀x,((relabel scope X.env).names.lookup x=some .cell∨(relabel scope X.env).names.lookup x=some .free)->(x,NameKind.free)∈scope.names:=λx h=>by
  have:∃k,(x,k)∈(relabel scope X.env).names/\(k=.cell∨k=.free):=by
   rcases h with h|h
   ·exact⟨_,jF h,.inl rfl⟩
   ·exact⟨_,jF h,.inr rfl⟩
  obtain⟨k,hm,hk⟩:=this;obtain⟨⟨n,j⟩,hj,e⟩:=vO hm;dsimp only at e;split at e
  ·rename_i hc;rw[vD,vD]at hc;cases e
   rw[←eq_of_beq hc.1.1];exact hj
  ·cases e
   rcases hk with rfl|rfl
   ·exact absurd rfl (h1 _ hj)
   ·exact hj
 exact⟨yu scope.names [] h4,h1,h2,h3,λx c e=>mE scope.names [] (λy d q=>by cases q) e,λx h=>by
  have:=mF (x:=x) scope.names [] (frees x h) (h4 _ (frees x h) rfl);exact Option.isSome_iff_exists.mp this⟩
theorem CZ {scope:Scope}{cells:List (Str×Addr)}{x:Str}(h:(x,NameKind.free)∈scope.names)(hc:(cells.lookup x).isSome=true):(dS scope.names cells []).lookup x=cells.lookup x:=by
 obtain⟨c,e⟩:=Option.isSome_iff_exists.mp (mF (x:=x) scope.names [] h hc);rw[e,mE scope.names [] (λy d q=>by cases q) e]
noncomputable def yv (nT:Nat)(cap:List Nat)(σ:St):St:=List.replicate nT none++cap.map λi=>(σ[i]?).join
noncomputable def fR (nT:Nat)(cap:List Nat)(ρ:Env):Env:=List.replicate nT none++cap.map λi=>match ρ[i]? with|some (some (d,_))=>some (d,false)|_=>none
theorem wJ {α:Type}{nT:Nat}{cap:List Nat}{f:Nat->Option α}{j:Nat}{v:α}(h:(List.replicate nT none++cap.map f)[j]? = some (some v)):∃k i,j=nT+k/\cap[k]? = some i/\f i=some v:=by
 by_cases hj:j<nT
 ·rw[List.getElem?_append_left (by simpa using hj),List.getElem?_replicate,if_pos hj]at h;cases h
 ·rw[List.getElem?_append_right (by simpa using Nat.not_lt.mp hj),List.length_replicate,vB]at h;obtain⟨i,h1,h2⟩:=oY h;exact⟨j - nT,i,by omega,h1,h2⟩
theorem Db {α:Type}{nT:Nat}{cap:List Nat}{f:Nat->Option α}{k i:Nat}{v:α}(h1:cap[k]? = some i)(h2:f i=some v):(List.replicate nT none++cap.map f)[nT+k]? = some (some v):=by
 rw[List.getElem?_append_right (by simp),List.length_replicate,vB,Nat.add_sub_cancel_left,h1];simp[h2]
theorem eA.caps {K:Frag}{B:Hp}{σ:St}{ρ:Env}{nT:Nat}{cap:List Nat}(h:eA K B σ ρ):eA K B (yv nT cap σ) (fR nT cap ρ):=⟨h.tb,λj d b q=>by
 obtain⟨k,i,rfl,h1,h2⟩:=wJ q;split at h2
 ·rename_i d' b' e;cases h2
  obtain⟨v,g1,g2⟩:=h.at' i _ _ e;exact⟨v,Db h1 (by rw[g1];rfl),g2⟩
 ·cases h2⟩
noncomputable def ft (tg:FG)(c:FT)(fe:FE)(ρ:Env):List D->Option (List D)
 |[]=>some []
 |d::r=>(tg d ρ).bind λρ1=>(c ρ1).bind λb=>if b=true then (fe ρ1).bind λx=>(ft tg c fe ρ r).map (x.1 :: ·)else ft tg c fe ρ r
@[simp] theorem IP (tg:FG)(c:FT)(fe:FE)(ρ:Env):ft tg c fe ρ []=some []:=by rw[ft]
@[simp] theorem ux (tg:FG)(c:FT)(fe:FE)(ρ:Env)(d:D)(r:List D):ft tg c fe ρ (d::r)=(tg d ρ).bind λρ1=>(c ρ1).bind λb=>if b=true then (fe ρ1).bind λx=>(ft tg c fe ρ r).map (x.1 :: ·)else ft tg c fe ρ r:=by rw[ft]
@[simp] def bP (fi:FA)(nT:Nat)(cap:List Nat)(tg:FG)(c:FT)(fe:FE):FE:=λρ=>(fi ρ).bind λaw=>if aw.length<=sizeLine then (ft tg c fe (fR nT cap ρ) aw).map λds=>(.lst ds,true)else none
def EU (K:Frag)(n:Nat)(tg:FG)(g:TG):Prop:=∀(B H:Hp)(σ:St)(ρ ρ1:Env)(v:V)(d:D)(Q:St->Hp->Prop),(∀i,i<n->ρ[i]? = some none)->eA K B σ ρ->aQ B H->Is K B v d->tg d ρ=some ρ1 ->
 ρ.length=σ.length->(∀σ1,eA K B σ1 ρ1->(∀B',eA K B' σ ρ->eA K B' σ1 ρ)->ρ.length=σ1.length->Q σ1 H)->g v σ H Q
theorem rM {K:Frag}{n i:Nat}(hi:i<n):EU K n (eC i) (gI i):=by
 intro B H σ ρ ρ1 v d Q cl rep s h e hl k;cases e
 have zq:i<σ.length:=by
  have:=(vV (cl i hi)).1;omega
 refine k _ ⟨rep.tb,λj e b q=>?_⟩ ?_ (by simpa using hl)
 ·rcases bO q with⟨rfl,p⟩|⟨ne,p⟩
  ·cases p
   exact⟨v,by simp[zq],h⟩
  ·obtain⟨w,h1,h2⟩:=rep.at' j e b p;exact⟨w,by rw[vC ne];exact h1,h2⟩
 ·intro B' Lz;refine⟨Lz.tb,λj e b q=>?_⟩;obtain⟨w,h1,h2⟩:=Lz.at' j e b q;have ne:i≠j:=λz=>by subst z;rw[cl i hi]at q;cases q
  exact⟨w,by rw[vC ne];exact h1,h2⟩
def JC (X:Cx)(oo:List Expr)(c:FT):Prop:=∀(ac:List (Addr×Obj))(s:Shared)(σ:St)(H:Hp)(Q:Bool->Hp->Prop),Inv X ac σ H s->uu X.K c σ H Q ->
 wq X (forIn oo true λc r=>if r=true then do let ok ←isTrue c X.env (eval c X.env);pure (ForInStep.yield ok)else pure (ForInStep.yield r)) (TP X ac σ Q) X.xe s
@[simp] noncomputable def cD:FT:=λ_=>some true
theorem cM:JC X [] cD:=by
 intro ac s σ H Q I h;obtain⟨B,ρ,c,sB,rep,e,q⟩:=h;cases e
 exact wpAny_tests_nil ⟨H,I,q H (.refl H)⟩
theorem uy (h:JT X e f):JC X [e] f:=λac s σ H Q I q=>wpAny_tests_one (h ac s σ H Q I q)
inductive CI (Y:Cx)(tn:Nat->Heap->Prop)(fp:List Addr)(N1 H2:Hp)(κ:Env)(a:Addr)(l:List D->Option (List D))(aw ds:List D)(s:Shared):Nat->Prop
 |mk (i:Nat) (N:Hp) (vs:List V) (es r:List D) (σ:St) (H:Hp) (I:Inv Y [] σ H s) (ti:tn i s.heap) (hn:∀b∈fp,H b=none) (hi:i<=aw.length) (rp:eA Y.K N1 σ κ) (hl:κ.length=σ.length)
   (x:Ext N1 N H2 H) (n0:N a=none) (h0:H a=some (.lst vs)) (vl:vs.length<=i) (iv:IsL Y.K N vs es) (er:l (aw.drop i)=some r) (ed:es++r=ds):CI Y tn fp N1 H2 κ a l aw ds s (aw.length - i)
theorem Ext.both (x:Ext N1 N H2 H)(y:Ext N1 N' H H'):Ext N (join N N') H H'/\aQ N' (join N N'):=by
 refine⟨⟨y.hh,dI,λa o e=>?_,λa o e=>?_⟩,λa o e=>?_⟩
 ·cases z:N a with
  |some u'=>rw[dI _ _ z]at e;cases e;exact y.hh _ _ (x.nh _ _ z)
  |none=>rw[dj z]at e;exact y.nh _ _ e
 ·cases z:N a with
  |some u'=>rw[dI _ _ z]at e;cases e;exact .inl rfl
  |none=>
   rw[dj z]at e;exact(y.new a o e).elim (λz'=>by rw[x.bn _ _ z']at z;cases z) .inr
 ·exact(y.new a o e).elim (λz=>dI _ _ (x.bn _ _ z)) λz=>by rw[dj (x.nh.free z)];exact e
theorem Ext.off (x:Ext B N H H')(h:B a=none)(h':H a=some o):N a=none:=by
 cases z:N a with
 |none=>rfl
 |some u=>
  rcases x.new _ _ z with z|z
  ·rw[h]at z;cases z
  ·rw[h']at z;cases z
theorem yw {Y:Cx}(iF:Y.calm=true)(hE:∀x s,¬Y.xe x s)(hg:PG Y tg g)(wl:EU Y.K nT lQ g)(hc:JC Y oo fc)(he:JE Y oF fe)(T:Turn Y.prog Y.w Y.K tg J fp it tn)(L4:∀i,i<nT->κ[i]? = some none)
  (J1:lS Y.K J N1 aw) (hsz:aw.length<=sizeLine) (hD:H2 a=none) (Oh:∀H',(∀b∈fp,H' b=none)->∀b∈fp,kc Y [] H' b)
  (hR:∀s4 σ' H' N vs,Inv Y [] σ' H' s4->Ext N1 N H2 H'->N a=none->H' a=some (.lst vs)->IsL Y.K N vs ds->R (.ok .next) s4) (h:CI Y tn fp N1 H2 κ a (ft lQ fc fe κ) aw ds s aw.length):
  codeAny (model Y.prog Y.w) Y.A (.compLoop (.ListComp oF [⟨tg,cj,oo,0⟩] scope pos) 0 (.ref it) (.ref a) Y.env) R s:=by
 refine q9 hE (λn s=>CI Y tn fp N1 H2 κ a (ft lQ fc fe κ) aw ds s n) (λn s' h=>?_) _ h;obtain⟨i,N,vs,es,r,σ',H',I',ti,hn,hi,rp,bC,x,M0,L5,Iu,L6,er,M1⟩:=h;have sH:aQ N1 H':=x.bn.trans x.nh;by_cases gs:i<aw.length
 ·obtain⟨go,yl⟩:=(J1 i H' sH).1 aw[i] (by simp[gs]);refine cb (T.item Y rfl rfl rfl iF i [] s' σ' H' Y.xe I' (Oh _ hn) ti go) λq s4 ⟨u,eu,hq⟩=>?_;subst eu;refine cb hq λ_ s5 ⟨xv,H5,I5,rx,y5,t5,NV⟩=>?_;obtain⟨N5,x5,i5⟩:=yl xv H5 y5;obtain⟨x6,c5⟩:=x.both x5;have PB:(join N N5) a=none:=x6.off M0 L5;have M2:aQ (join N N5) H5:=x6.nh;rw[List.drop_eq_getElem_cons gs]at er;unfold ft at er;obtain⟨ρ1,e1,er⟩:=oX er;obtain⟨b,e2,er⟩:=oX er;have gY:∀(s9:Shared)(σ9:St)(H9 N9:Hp)(L8:List V)(M3 r9:List D),Inv Y (lb fp s5.heap) σ9 H9 s9->eA Y.K N1 σ9 κ->κ.length=σ9.length->Ext N1 N9 H2 H9->N9 a=none->H9 a=some (.lst L8) ->
    L8.length<=i+1->IsL Y.K N9 L8 M3->ft lQ fc fe κ (aw.drop (i+1))=some r9->M3++r9=ds->∃m,m<aw.length - i/\CI Y tn fp N1 H2 κ a (ft lQ fc fe κ) aw ds s9 m:=λs9 σ9 H9 N9 L8 M3 r9 I9 Rr l9 x9 n9 h9 v9 i9 Rs Rt=>
   ⟨_,by omega,i+1,N9,L8,M3,r9,σ9,H9,I9.pins_of λp hp=>by simp at hp,T.keep _ _ _ t5 λb hb o e=>(I9.pin (b,o) (mY _ (hZ hb e))).1,λb hb=>by
    obtain⟨o,e,d⟩:=T.obj _ _ t5 b hb;exact(I9.pin (b,o) (mY _ (hZ hb e))).2.1,gs,Rr,l9,x9,n9,h9,v9,i9,Rs,Rt⟩
  refine cb (hg (lb fp s5.heap) s5 σ' H5 xv u (λσ6 H6=>H6=H5/\eA Y.K (join N N5) σ6 ρ1/\eA Y.K N1 σ6 κ/\κ.length=σ6.length) (I5.pinned (Oh _ NV) (T.obj _ _ t5)) rx
   (wl (join N N5) H5 σ' κ ρ1 xv aw[i] _ L4 (rp.mono (x.bn.trans dI)) M2 (i5.mono c5) e1 bC λσ1 r1 r2 l1=>⟨rfl,r1,r2 N1 rp,l1⟩)) λ_ s6 ⟨σ6,H6,I6,eH,PD,PF,l6⟩=>?_
  subst eH;have Oi:H6 a=some (.lst vs):=x5.hh _ _ L5;refine cb (hc _ s6 σ6 H6 (λc H7=>c=b/\aQ H6 H7) I6 ⟨join N N5,ρ1,b,M2,PD,e2,λH7 h7=>⟨rfl,h7⟩⟩) λok s7 ⟨H7,I7,eb,h7⟩=>?_;subst eb;have x7:Ext N1 (join N N5) H2 H7:=(x.trans x6).trans (.grow M2 h7);cases ok with
  |false=>
   rw[if_neg (by decide)]at er ⊢;exact gY s7 σ6 H7 (join N N5) vs es r I7 PF l6 x7 PB (h7 _ _ Oi) (Nat.le_succ_of_le Iu) (L6.mono dI) er M1
  |true=>
   rw[if_pos rfl]at er ⊢;obtain⟨y,e3,er⟩:=oX er;obtain⟨r',e4,er⟩:=oY er;subst er;refine cb (he _ s7 σ6 H7 (λv H8=>∃N8,Ext (join N N5) N8 H7 H8/\Is Y.K N8 v y.1) I7 ⟨join N N5,ρ1,y.1,y.2,M2.trans h7,PD,e3,λv H8 N8 x8 i8 _=>⟨N8,x8,i8⟩⟩) λw8 s8 ⟨v8,H8,I8,r8,N8,x8,i8⟩=>?_;refine cb (oS _ s8 σ6 H8 (.ref a) [v8] (.ref a) [w8] (λ_ H9=>H9=upd H8 a (.lst (vs++[v8]))) I8 rfl (.cons r8 .nil) ⟨_,vs,v8,rfl,rfl,x8.hh _ _ (h7 _ _ Oi),by omega,rfl⟩) λ_ s9 ⟨_,H9,I9,_,e9⟩=>?_;subst e9;have PH:=x8.off PB (h7 _ _ Oi);exact gY s9 σ6 _ N8 (vs++[v8]) (es++[y.1]) r' I9 PF l6 ((x7.trans x8).upd hD PH) PH av (by rw[vA,List.length_singleton];omega) ((L6.mono (dI.trans x8.bn)).append (.cons i8 .nil)) e4 (by rw[List.append_assoc];exact M1)
 ·obtain rfl:i=aw.length:=by omega
  rw[List.drop_eq_nil_of_le (vT _)]at er;cases er
  rw[uQ]at M1;subst M1;refine cb (T.done Y rfl rfl rfl iF aw.length [] s' σ' H' Y.xe I' (Oh _ hn) ti ((J1 _ H' sH).2 (vT _))) λq s4 ⟨hq,I9⟩=>?_;subst hq;exact hR s4 σ' H' N vs I9 x M0 L5 L6
theorem mG {X:Cx}(iF:X.calm=true){tg cj oF:Expr}{oo:List Expr}{scope:Scope}{pos:Pos}{cl:List (Str×Addr)}{N':List Str}{nT:Nat}{cap:List Nat}{lQ:FG}{g:TG}{fc:FT}{fe:FE}
  (S:CompSc X scope cl) (cp:kX X N' scope cl nT cap)
  (hg:∀C s H fp,PG (gB X N' scope cl C s H fp) tg g) (wl:EU X.K nT lQ g) (hc:∀C s H fp,JC (gB X N' scope cl C s H fp) oo fc) (he:∀C s H fp,JE (gB X N' scope cl C s H fp) oF fe)
  {ac:List (Addr×Obj)}{σ:St}{H2:Hp}{s2:Shared}{it:Addr}{fp:List Addr}{tn:Nat->Heap->Prop}{J:It}{N1:Hp}{ρ:Env}{aw ds:List D}{E:Value->Shared->Prop}
  (I2:Inv X ac σ H2 s2) (T:Turn X.prog X.w X.K tg J fp it tn) (wk:tn 0 s2.heap) (f2:∀b∈fp,kc X ac H2 b)
  (rep:eA X.K N1 σ ρ) (sN:aQ N1 H2) (J1:lS X.K J N1 aw) (hsz:aw.length<=sizeLine) (ec:ft lQ fc fe (fR nT cap ρ) aw=some ds) {RR:Value->Addr->Result->Shared->Prop}
  (Ru:∀(Dd C:Addr)(s':Shared)(H' N:Hp)(vs:List V)(m:Str->Option Value),H2 Dd=none->Inv X ac σ H' s'->s'.heap.Ns C m->kc X ac H' C->Ext N1 N H2 H'->N Dd=some (.lst vs)->IsL X.K N vs ds->RR (.ref Dd) C (.ok .next) s'):
  wq X (newList []) (λgZ s₃=>wq X (newFunctionEnv scope X.env.globals cl [] X.env.qual none .none (some X.env)) (λL9 s₄=>
   codeAny (model X.prog X.w) X.A (.compStart (.ListComp oF [⟨tg,cj,oo,0⟩] scope pos) 0 (.ref it) gZ { L9 with scope:=relabel scope X.env }) (RR gZ L9.locals) s₄) E s₃) E s2:=by
 refine wpAny_newObj_type (wpAny_newFunctionEnv S.nocell (by intro y hy;simp at hy) (λh₁ wm hsb₁=>?_) S.kind);dsimp only at wm hsb₁ ⊢;have hD:H2 s2.heap.objs.size=none:=I2.fresh;have I3:Inv X ac σ (upd H2 s2.heap.objs.size (.lst [])) { s2 with heap:=s2.heap.push { cls:=.type "list",dict:=none,data:=.seq ([]:List Value).toArray } }:=I2.lnew (t':=s2.toks) (ys:=[]) (its:=[]) .nil (uM _);generalize hH3:s2.heap.push { cls:=.type "list",dict:=none,data:=.seq ([]:List Value).toArray }=g3 at wm hsb₁ I3 ⊢;have hC:g3.objs.size=s2.heap.objs.size+1:=by rw[←hH3,Heap.size_push]
 have E9:∀b o,s2.heap.get? b=some o->g3.get? b=some o:=λb o e=>hH3 ▸ vZ _ e;have zx:∀b o,g3.get? b=some o->h₁.get? b=some o:=λb o e=>hsb₁.extBut b o (vS (vX e)) (vZ _ e);have Ja:∀b o,g3.get? b=some o->b≠g3.objs.size:=λb o e=>vS (vX e);have PJ:∀b∈fp,∃o,s2.heap.get? b=some o:=λb hb=>let ⟨o,e,_⟩:=T.obj 0 s2.heap wk b hb;⟨o,e⟩;have Rv:∀b∈fp,b≠s2.heap.objs.size:=λb hb=>let ⟨o,e⟩:=PJ b hb;vS (vX e);have PK:∀b∈fp,b≠g3.objs.size:=λb hb=>let ⟨o,e⟩:=PJ b hb;Ja b o (E9 b o e);have PL:∀x c,X.env.cells.lookup x=some c->c≠g3.objs.size:=λx c e=>by
  obtain⟨v,z⟩:=I3.cell x c e;exact vS z.lt
 have Rx:(upd H2 s2.heap.objs.size (HO.lst [])) g3.objs.size=none:=I3.hok.fresh (vT _);have stk:∀b∈kZ X.stack,∃o,s2.heap.get? b=some o:=λb hb=>by
  obtain⟨_,o,ho,_⟩:=(I2.stack).mem hb;exact⟨o,ho⟩
 -- the block's context
 let Y:Cx:=gB X N' scope cl g3.objs.size { s2 with heap:=g3 } (upd H2 s2.heap.objs.size (.lst [])) fp;have ok:Y.Ok:=by
  refine⟨I2.ok.mod,?_,I2.ok.glob,I2.ok.blt,vT _,λx y c e1 e2=>I2.ok.inj x y c (S.sub x c e1) (S.sub y c e2),λx h=>S.has x h,λx c h=>absurd h uY,I2.ok.hd,I2.ok.frames,.inl rfl,λb hb=>⟨PK b hb,λx c e=>(f2 b hb).2.2.2.2.1 x c (S.sub x c e)⟩,λb o e=>?_,?_,λb o e hb=>?_,λb hb hz=>?_,I3.stack,λb hb=>I3.stkFree b hb⟩
  ·show(relabel scope X.env).kind=.function;exact S.kind
  ·exact I3.bs b o e
  ·exact vR I3.ok.bsz I3.sz
  ·have h1:=(f2 b hb).2.2.2.1;rcases h1 with z|z
   ·exact I2.ok.noex b o e z
   ·exact absurd (vQ (vX e) (vR I2.ok.bsz z)) (Nat.lt_irrefl _)
  ·rcases vP (I2.stkSub b hz)with z|z
   ·exact(f2 b hb).2.1 z
   ·exact(f2 b hb).2.2.1 z
 have I4:Inv Y [] (yv nT cap σ) (upd H2 s2.heap.objs.size (.lst [])) { s2 with heap:=h₁,toks:=s2.toks+([]:List (Str×Value)).length }:=by
  refine⟨ok,rfl,I2.bare,Un.kept zx,⟨_,wm,λj x v e1 e2 e3=>?_⟩,λx c e=>?_,Rx,λx c e=>I3.freeC x c (S.sub x c e),λp hp=>absurd (show p∈[]from hp) List.not_mem_nil,I3.hok.kept zx,?_⟩
  ·obtain⟨k,i,rfl,h1,h2⟩:=wJ e2;obtain⟨y,g1,g2,PM,g4,g5⟩:=cp.get h1;have PN:N'[nT+k]? = some x:=e1;rw[g1]at PN;cases PN;have Od:σ[i]? = some (some v):=by
    cases q:σ[i]? with
    |none=>rw[q]at h2;cases h2
    |some z=>rw[q]at h2;have:z=some v:=h2;rw[this]
   obtain⟨m,_,hl⟩:=I3.loc;obtain⟨u,r,l⟩:=hl i _ v g2 Od (PM.elim (λz=>.inr (.inl z)) λz=>.inr (.inr z));refine⟨u,r,?_⟩;rcases l with⟨l,_⟩|⟨_,c,lc,ic⟩
   ·rcases PM with z|z<;>(rw[z]at l;cases l)
   ·refine .inr ⟨g4,c,by show cl.lookup _=some c;rw[g5];exact lc,?_⟩;obtain⟨o,ho,hd⟩:=ic;exact⟨o,zx _ _ ho,hd⟩
  ·obtain⟨v,o,ho,hd⟩:=I3.cell x c (S.sub x c e);exact⟨v,o,zx _ _ ho,hd⟩
  ·show(yv nT cap σ).length=N'.length;unfold yv;rw[cp.len];simp
 have zu:∀s₃:Shared,s₃={ s2 with heap:=h₁,toks:=s2.toks+([]:List (Str×Value)).length }->codeAny (model Y.prog Y.w) Y.A (.compLoop (.ListComp oF [⟨tg,cj,oo,0⟩] scope pos) 0 (.ref it) (.ref s2.heap.objs.size) Y.env) (RR (.ref s2.heap.objs.size) g3.objs.size) s₃:=by
  rintro s₃ rfl;refine yw (Y:=Y) iF (λ_ _ z=>z) (hg _ _ _ _) wl (hc _ _ _ _) (he _ _ _ _) T (λi hi=>?_) J1 hsz hD (λH' hn b hb=>⟨hn b hb,PK b hb,ok.exfs b hb,.inl hb,λx c e=>(f2 b hb).2.2.2.2.1 x c (S.sub x c e),λp hp=>absurd (show p∈[]from hp) List.not_mem_nil⟩) (λs4 σ' H' N vs I9 x M0 L5 L6=>?_)
   ⟨0,N1,[],[],ds,yv nT cap σ,_,I4,T.keep _ _ _ wk λb hb o e=>zx _ _ (E9 _ _ e),λb hb=>?_,uM _,rep.caps,?_,(Ext.refl sN).upd hD (sN.free hD),sN.free hD,av,uM _,.nil,by simpa using ec,rfl⟩
  ·unfold fR;rw[List.getElem?_append_left (by simpa using hi),List.getElem?_replicate,if_pos hi]
  ·obtain⟨m,hm,_⟩:=I9.loc;have k:aQ N (upd N s2.heap.objs.size (.lst vs)):=λa o e=>by rw[aA (λz=>by subst z;rw[M0]at e;cases e)];exact e
   refine Ru s2.heap.objs.size g3.objs.size s4 H' (upd N s2.heap.objs.size (.lst vs)) vs m hD (I2.call' (ch:=fp) I9.os ((Un.laid E9 (vT _) hD).trans I9.base) I9.hok I9.bare λb hb=>⟨(f2 b hb).2.2.2.1,(f2 b hb).2.1,(f2 b hb).2.2.2.2.1,(f2 b hb).2.2.2.2.2⟩) hm (I2.fpOk (by rw[hC];exact Nat.le_succ _) I9.free) ⟨x.hh,x.bn.trans k,λa o e=>?_,λa o e=>?_⟩ av (L6.mono k)
   ·by_cases z:a=s2.heap.objs.size
    ·subst z;rw[av]at e;cases e;exact L5
    ·rw[aA z]at e;exact x.nh _ _ e
   ·by_cases z:a=s2.heap.objs.size
    ·subst z;exact .inr hD
    ·rw[aA z]at e;exact x.new _ _ e
  ·rw[aA (Rv b hb)];exact(f2 b hb).1
  ·unfold fR yv;simp
 exact codeAny_compStart_list (zu _ rfl) (T.self _ 0 _ _ _ (T.keep _ _ _ wk λb hb o e=>zx _ _ (E9 _ _ e)) (zu _ rfl))
theorem Dc (iF:X.calm=true) 
  (S:CompSc X scope cl) (cp:kX X N' scope cl nT cap) (hi:JI X tg cj fi)
  (hg:∀C s H fp,PG (gB X N' scope cl C s H fp) tg g) (wl:EU X.K nT lQ g) (hc:∀C s H fp,JC (gB X N' scope cl C s H fp) oo fc) (he:∀C s H fp,JE (gB X N' scope cl C s H fp) oF fe)
  (hs:∀x,foldedSetIterable cj X.env x=pure x:=by intro _;rfl):
  JE X (.ListComp oF [⟨tg,cj,oo,0⟩] scope pos) (bP fi nT cap lQ fc fe):=by
 intro ac s σ H Q I h;obtain⟨B,ρ,d,b,sB,rep,e,q⟩:=h;obtain⟨aw,ei,e⟩:=oX e;have hsz:aw.length<=sizeLine:=Decidable.byContradiction λz=>by rw[if_neg z]at e;cases e
 rw[if_pos hsz]at e;obtain⟨ds,ec,e⟩:=oY e;cases e
 rw[eval_ListComp];refine wpAny_comprehension_free (use:=none) rfl hs S.clos S.kind S.names (cb (hi ac s σ H (λJ H2=>∃N1,Ext B N1 H H2/\lS X.K J N1 aw) I ⟨B,ρ,aw,sB,rep,ei,λJ H2 N1 x1 j1=>⟨N1,x1,j1⟩⟩) λv s1 h1=>cb h1 λMv s2 h2=>?_);obtain⟨it,fp,tn,J,H2,e,I2,T,wk,f2,N1,x1,j1⟩:=h2;subst e;refine mG iF S cp hg wl hc he I2 T wk f2 (rep.mono x1.bn) x1.nh j1 hsz ec (RR:=λgZ C=>compPost (model X.prog X.w) X.A X.xe none (EP X ac σ Q) gZ C) ?_;intro Dd C s' H' N vs m hD I' hm fC x hN hl;refine⟨m,hm,λh' hs'=>⟨.ref Dd,H',?_,rfl,q _ H' N (x1.trans x) (.lst (fO.of hN) hl) λ_=>⟨Dd,vs,ds,rfl,rfl,x1.hh.free hD,hN,hl⟩⟩⟩;obtain⟨c0,c1,c2,c3,c4,c5⟩:=fC;exact I'.turned (t':=s'.toks) (λb o hb e=>(hs'.2 b hb).trans e) c0 c1 c3 c4 c5
theorem De (iF:X.calm=true) 
  (hN:X.N.Nodup) (LA:X.N[i]? = some y) (hy:X.env.kindOf y=some .local)
  (EA:swapsWith (.ListComp oF [⟨tg,cj,oo,0⟩] scope pos) (some (.Name y py)) spos.line X.env=pure true)
  (S:CompSc X scope cl) (cp:kX X N' scope cl nT cap) (hi:JI X tg cj fi)
  (hg:∀C s H fp,PG (gB X N' scope cl C s H fp) tg g) (wl:EU X.K nT lQ g) (hc:∀C s H fp,JC (gB X N' scope cl C s H fp) oo fc) (he:∀C s H fp,JE (gB X N' scope cl C s H fp) oF fe)
  (hs:∀x,foldedSetIterable cj X.env x=pure x:=by intro _;rfl):
  JS X (.Assign [.Name y py] (.ListComp oF [⟨tg,cj,oo,0⟩] scope pos) spos) (aP i (bP fi nT cap lQ fc fe)):=by
 intro ac s σ H E I h;have h2:rz (tD X.K (bP fi nT cap lQ fc fe)) (gI i) E σ H:=q8 h;obtain⟨B,ρ,d,b,sB,rep,e,q⟩:=h2;obtain⟨aw,ei,e⟩:=oX e;have hsz:aw.length<=sizeLine:=Decidable.byContradiction λz=>by rw[if_neg z]at e;cases e
 rw[if_pos hsz]at e;obtain⟨ds,ec,e⟩:=oY e;cases e
 rw[exec_Assign_Name_used _ _ _ _ EA];refine wX (wpAny_standAt (wX ?_));show wpAny _ _ (do let _ ←comprehension (.ListComp oF [⟨tg,cj,oo,0⟩] scope pos) scope X.env _ (newList []) false (eval cj X.env) (some (assign (.Name y py) X.env))) _ _ s;refine wX (wpAny_mono (wpAny_comprehension_free (use:=some (assign (.Name y py) X.env)) (Q:=λ_ s'=>SP X ac E .next s') rfl hs S.clos S.kind S.names
  (cb (hi ac s σ H (λJ H2=>∃N1,Ext B N1 H H2/\lS X.K J N1 aw) I ⟨B,ρ,aw,sB,rep,ei,λJ H2 N1 x1 j1=>⟨N1,x1,j1⟩⟩) λv s1 h1=>cb h1 λMv s2 h2=>?_)) (λ_ s' hq=>wY (wY hq)) λ_ _ e=>e)
 obtain⟨it,fp,tn,J,H2,e,I2,T,wk,f2,N1,x1,j1⟩:=h2;subst e;refine mG iF S cp hg wl hc he I2 T wk f2 (rep.mono x1.bn) x1.nh j1 hsz ec (RR:=λgZ C=>compPost (model X.prog X.w) X.A X.xe (some (assign (.Name y py) X.env)) (λ_ s'=>SP X ac E .next s') gZ C) ?_;intro Dd C s' H' N vs m hD I' hm fC x PP hl;show wpAny _ _ (assign (.Name y py) X.env (.ref Dd)) _ _ s';obtain⟨c0,c1,c2,c3,c4,c5⟩:=fC;refine wpAny_assign_Name (oH I' hN LA (.inl hy) (r:=show aL (.ref Dd) (.ref Dd)from rfl) (λs9 I9 ⟨a,sb,ha⟩=>?_) (.inr hy));have nC:C≠a:=by
  rcases ha with z|z
  ·rw[z];exact c1
  ·exact λw=>c4 y a z w.symm
 refine⟨m,hm.sameBut sb nC,λh' hs'=>⟨_,H',?_,q _ H' N (x1.trans x) (.lst (fO.of PP) hl) λ_=>⟨Dd,vs,ds,rfl,rfl,x1.hh.free hD,PP,hl⟩⟩⟩;exact I9.turned (t':=s9.toks) (λb o hb e=>(hs'.2 b hb).trans e) c0 c1 c3 c4 c5
section
variable {X:Cx}{a b c e:Expr}{pos:Pos}
theorem PE.to (h:PE X e t)(k:∀σ H Q,t' σ H Q->t σ H Q):PE X e t':=λac s σ H Q I q=>h ac s σ H Q I (k σ H Q q)
theorem PT.to (h:PT X e t)(k:∀σ H Q,t' σ H Q->t σ H Q):PT X e t':=λac s σ H Q I q=>h ac s σ H Q I (k σ H Q q)
theorem PW.to (h:PW X e t)(k:∀σ H Q,t' σ H Q->t σ H Q):PW X e t':=λwh ac s σ H Q I q=>h wh ac s σ H Q I (k σ H Q q)
theorem PA.to (h:PA X es t)(k:∀σ H Q,t' σ H Q->t σ H Q):PA X es t':=λpos ac s σ H Q I q=>h pos ac s σ H Q I (k σ H Q q)
theorem PS.to {st:Stmt}{t t':TS}(h:PS X st t)(k:∀E σ H,t' E σ H->t E σ H):PS X st t':=λac s σ H E I q=>h ac s σ H E I (k E σ H q)
theorem lD.to {st:List Stmt}{t t':TS}(h:lD X st t)(k:∀E σ H,t' E σ H->t E σ H):lD X st t':=λac s σ H E I q=>h ac s σ H E I (k E σ H q)
theorem PI.to (h:PI X tg it t)(k:∀σ H Q,t' σ H Q->t σ H Q):PI X tg it t':=λac s σ H Q I q=>h ac s σ H Q I (k σ H Q q)
theorem yx {K:Frag}{d:D}{v:V}(i:∀B,Is K B v d){σ:St}{H:Hp}{Q:VK}(h:tD K (fC d) σ H Q):tC v σ H Q:=by
 obtain⟨B,ρ,d',b,s,r,e,q⟩:=h;cases e
 exact q.one s (i B)
theorem af (i:Nat)(hN:X.N[i]? = some x:=by rfl)(hv:Cm X.env.scope x:=by first|exact Or.inl rfl|exact Or.inr (Or.inl rfl)|exact Or.inr (Or.inr rfl))(hd:(x == ("__debug__" : Str))=false:=by decide)
  (gH:(x == ("__classdict__" : Str))=false:=by decide):JE X (.Name x pos) (ah i):=PE.to (dR hN hv hd gH) λ_ _ _ h=>GH h
theorem aC:JE X (.Constant (.int i) j pos) (fC (.int i)):=PE.to Gc λ_ _ _ h=>yx (λ_=>.int i) h
theorem cZ:JE X (.Constant (.bool i) j pos) (fC (.bl i)):=PE.to Jm λ_ _ _ h=>yx (λ_=>.bl i) h
theorem bV:JE X (.Constant .none j pos) (fC .non):=PE.to Gd λ_ _ _ h=>yx (λ_=>.non) h
theorem ai:JE X (.Constant (.str x) j pos) (fC (.str x)):=PE.to Ge λ_ _ _ h=>yx (λ_=>.str x) h
theorem Df (hg:Gl X x)(hm:X.mg x=some u)(r:aL v u)(i:∀B,Is X.K B v d)(hd:(x == ("__debug__" : Str))=false:=by decide):JE X (.Name x pos) (fC d):=PE.to (gt hg hm r hd) λ_ _ _ h=>yx i h
theorem ao (ho:cA X (binaryOp op) (rD X.K f))(ha:JE X a fa)(hb:JE X b fb):JE X (.BinOp a op b pos) (f2 f fa fb):=PE.to (zM ho ha hb) λ_ _ _ h=>CS h
theorem EV (ho:Jy X (unaryOp op) (Nd X.K f))(ha:JE X a fa):JE X (.UnaryOp op a pos) (f1 f fa):=PE.to (J0 ho ha) λ_ _ _ h=>Nf h
theorem dU (ho:cA X (compareOp op) (rD X.K f))(ha:JE X a fa)(hb:JE X b fb)(hm:behindInMarks op b=false:=by first|exact m6 _ (by decide) (by decide)|rfl):JE X (.Compare a [op] [b] pos) (f2 f fa fb):=PE.to (CC ho ha hb hm) λ_ _ _ h=>CS h
theorem qA {K:Frag}{f:FE}{σ:St}{H:Hp}{Q:Bool->Hp->Prop}(h:uu K (bw f) σ H Q):tD K f σ H λx H'=>∃k,x=.bl k/\Q k H':=by
 obtain⟨B,ρ,c,s,r,e,q⟩:=h;unfold bw at e;split at e
 ·rename_i c' b' ef;cases e
  refine⟨B,ρ,.bl c,b',s,r,ef,λv H' N x i _=>?_⟩;cases i
  exact⟨c,rfl,q H' x.hh⟩
 ·cases e
theorem aG (ho:cA X (compareOp op) (rD X.K f))(ha:JE X a fa)(hb:JE X b fb)(hm:behindInMarks op b=false:=by first|exact m6 _ (by decide) (by decide)|rfl):JT X (.Compare a [op] [b] pos) (bw (f2 f fa fb)) :=
 PT.to (w9 ho ha hb hm) λ_ _ _ h=>CS (qA h)
theorem bH (h:JE X e f)(he:∀oh,isTrue e X.env oh=(do let v ←oh;standAt e.pos;holding [v] (truthy v)):=by intro _;rfl):JT X e (bw f):=PT.to (Gf h he) λ_ _ _ q=>qA q
@[simp] noncomputable def cH (f g:D->D->OB)(fa fb fc:FE):FE:=λρ=>(fa ρ).bind λx=>(fb ρ).bind λy=>match f x.1 y.1 with
 |some (.bl true,_)=>(fc ρ).bind λz=>g y.1 z.1
 |some (.bl false,_)=>some (.bl false,false)
 |_=>none
theorem rN {K:Frag}{f g:D->D->OB}{fa fb fc:FE}{σ:St}{H:Hp}{Q:VK}(h:tD K (cH f g fa fb fc) σ H Q):ui (rD K f) (rD K g) (tD K fa) (tD K fb) (tD K fc) σ H Q:=by
 obtain⟨B,ρ,d,b,s,r,e,q⟩:=h;obtain⟨x,ex,e⟩:=oX e;obtain⟨y,ey,e⟩:=oX e;refine⟨B,ρ,x.1,x.2,s,r,ex,λv H1 N1 x1 i1 _=>⟨N1,ρ,y.1,y.2,x1.nh,r.mono x1.bn,ey,λv2 H2 N2 x2 i2 _=>?_⟩⟩;split at e
 ·rename_i b' ef;obtain⟨z,ez,e⟩:=oX e;refine⟨N2,x.1,y.1,.bl true,b',x2.nh,i1.mono x2.bn,i2,ef,λv3 H3 N3 x3 i3 _=>?_⟩;cases i3
  refine⟨true,rfl,?_⟩;rw[if_pos rfl];refine⟨N3,ρ,z.1,z.2,x3.nh,r.mono (x1.bn.trans (x2.bn.trans x3.bn)),ez,λv4 H4 N4 x4 i4 _=>⟨N4,y.1,z.1,d,b,x4.nh,i2.mono (x3.bn.trans x4.bn),i4,e,?_⟩⟩;exact q.into ((x1.trans x2).trans (x3.trans x4))
 ·rename_i b' ef;cases e
  refine⟨N2,x.1,y.1,.bl false,b',x2.nh,i1.mono x2.bn,i2,ef,λv3 H3 N3 x3 i3 _=>?_⟩;cases i3
  refine⟨false,rfl,?_⟩;rw[if_neg (by decide)];exact(q.into ((x1.trans x2).trans x3)).one x3.nh (.bl false)
 ·cases e
theorem mH (ho:cA X (compareOp op) (rD X.K f))(rj:cA X (compareOp zv) (rD X.K g))(ha:JE X a fa)(hb:JE X b fb)(hc:JE X c fc)
  (hm:lastMarks [op,zv] [b,c]=false:=by with_unfolding_all rfl):JE X (.Compare a [op,zv] [b,c] pos) (cH f g fa fb fc):=PE.to (zN ho rj ha hb hc hm) λ_ _ _ h=>rN h
theorem ki (ho:cA X (compareOp op) (rD X.K f))(rj:cA X (compareOp zv) (rD X.K g))(ha:JE X a fa)(hb:JE X b fb)(hc:JE X c fc)
  (hm:lastMarks [op,zv] [b,c]=false:=by with_unfolding_all rfl):JT X (.Compare a [op,zv] [b,c] pos) (bw (cH f g fa fb fc)):=PT.to (zO ho rj ha hb hc hm) λ_ _ _ h=>rN (qA h)
theorem Dg {K:Frag}{f g:FT}{σ:St}{H:Hp}{Q:Bool->Hp->Prop}(h:uu K (lF f g) σ H Q):Jn (uu K f) (uu K g) σ H Q:=by
 obtain⟨B,ρ,c,s,r,e,q⟩:=h;unfold lF at e;cases ef:f ρ with
 |none=>rw[ef]at e;cases e
 |some k=>
  rw[ef]at e;refine⟨B,ρ,k,s,r,ef,λH1 h1=>?_⟩;cases k with
  |true=>rw[if_pos rfl];exact⟨B,ρ,c,s.trans h1,r,e,λH2 h2=>q H2 (h1.trans h2)⟩
  |false=>rw[if_neg (by decide)];cases e;exact q H1 h1
theorem GK {K:Frag}{f g:FT}{σ:St}{H:Hp}{Q:Bool->Hp->Prop}(h:uu K (dH f g) σ H Q):Pc (uu K f) (uu K g) σ H Q:=by
 obtain⟨B,ρ,c,s,r,e,q⟩:=h;unfold dH at e;cases ef:f ρ with
 |none=>rw[ef]at e;cases e
 |some k=>
  rw[ef]at e;refine⟨B,ρ,k,s,r,ef,λH1 h1=>?_⟩;cases k with
  |false=>rw[if_neg (by decide)];exact⟨B,ρ,c,s.trans h1,r,e,λH2 h2=>q H2 (h1.trans h2)⟩
  |true=>rw[if_pos rfl];cases e;exact q H1 h1
theorem Dh {K:Frag}{f:FT}{σ:St}{H:Hp}{Q:Bool->Hp->Prop}(h:uu K (bY f) σ H Q):Jo (uu K f) σ H Q:=by
 obtain⟨B,ρ,c,s,r,e,q⟩:=h;obtain⟨k,ek,e⟩:=oY e;subst e;exact⟨B,ρ,k,s,r,ek,λH1 h1=>q H1 h1⟩
variable {rest:List Expr}
theorem wK (ha:JT X a f):JW X (.BoolOp .And [a] pos) f:=C3 ha
theorem cN (ha:JT X a f):JW X (.BoolOp .Or [a] pos) f:=Gg ha
theorem Ak (ha:JT X a f)(hb:JW X (.BoolOp .And (b::rest) pos) g):JW X (.BoolOp .And (a::b::rest) pos) (lF f g):=PW.to (Gh ha hb) λ_ _ _ h=>Dg h
theorem dz (ha:JT X a f)(hb:JW X (.BoolOp .Or (b::rest) pos) g):JW X (.BoolOp .Or (a::b::rest) pos) (dH f g):=PW.to (Jp ha hb) λ_ _ _ h=>GK h
theorem gL (h:JW X e f):JT X e f:=h.pt
theorem bK (ha:JT X a f):JT X (.UnaryOp .Not a pos) (bY f):=PT.to (Gi ha) λ_ _ _ h=>Dh h
@[simp] noncomputable def li (f g:FE):FE:=λρ=>match f ρ with|some (.bl true,_)=>g ρ|some (.bl false,_)=>some (.bl false,false)|_=>none
@[simp] noncomputable def EW (f g:FE):FE:=λρ=>match f ρ with|some (.bl true,_)=>some (.bl true,false)|some (.bl false,_)=>g ρ|_=>none
@[simp] noncomputable def Al (f:FE):FE:=λρ=>match f ρ with|some (.bl c,_)=>some (.bl (!c),false)|_=>none
theorem ia (ha:JE X a f)(hb:JE X (.BoolOp .And (b::rest) pos) g):JE X (.BoolOp .And (a::b::rest) pos) (li f g):=PE.to (Gk ha hb) λσ H Q h=>by
 obtain⟨B,ρ,d,k,s,r,e,q⟩:=h;unfold li at e;split at e
 ·rename_i b' ef;refine⟨B,ρ,_,_,s,r,ef,λv H1 N1 x1 i1 _=>?_⟩;cases i1
  refine⟨true,rfl,?_⟩;rw[if_pos rfl];exact⟨N1,ρ,d,k,x1.nh,r.mono x1.bn,e,q.into x1⟩
 ·rename_i b' ef;cases e
  refine⟨B,ρ,_,_,s,r,ef,λv H1 N1 x1 i1 _=>?_⟩;cases i1
  refine⟨false,rfl,?_⟩;rw[if_neg (by decide)];exact(q.into x1).one x1.nh (.bl false)
 ·cases e
theorem wL (ha:JE X a f)(hb:JE X (.BoolOp .Or (b::rest) pos) g):JE X (.BoolOp .Or (a::b::rest) pos) (EW f g):=PE.to (Js ha hb) λσ H Q h=>by
 obtain⟨B,ρ,d,k,s,r,e,q⟩:=h;unfold EW at e;split at e
 ·rename_i b' ef;cases e
  refine⟨B,ρ,_,_,s,r,ef,λv H1 N1 x1 i1 _=>?_⟩;cases i1
  refine⟨true,rfl,?_⟩;rw[if_pos rfl];exact(q.into x1).one x1.nh (.bl true)
 ·rename_i b' ef;refine⟨B,ρ,_,_,s,r,ef,λv H1 N1 x1 i1 _=>?_⟩;cases i1
  refine⟨false,rfl,?_⟩;rw[if_neg (by decide)];exact⟨N1,ρ,d,k,x1.nh,r.mono x1.bn,e,q.into x1⟩
 ·cases e
theorem fU (h:JE X a f):JE X (.BoolOp op [a] pos) f:=Gj h
theorem GL (ha:JE X a f):JE X (.UnaryOp .Not a pos) (Al f):=PE.to (Gm ha) λσ H Q h=>by
 obtain⟨B,ρ,d,k,s,r,e,q⟩:=h;unfold Al at e;split at e
 ·rename_i c b' ef;cases e
  refine⟨B,ρ,_,_,s,r,ef,λv H1 N1 x1 i1 _=>?_⟩;cases i1
  exact⟨c,rfl,(q.into x1).one x1.nh (.bl _)⟩
 ·cases e
theorem iL (hc:JT X c fc)(ha:JE X a f)(hb:JE X b g):JE X (.IfExp c a b pos) (ot fc f g):=PE.to (zJ hc ha hb) λσ H Q h=>by
 obtain⟨B,ρ,d,k,s,r,e,q⟩:=h;unfold ot at e;cases ef:fc ρ with
 |none=>rw[ef]at e;cases e
 |some t=>
  rw[ef]at e;refine⟨B,ρ,t,s,r,ef,λH1 h1=>?_⟩;cases t with
  |true=>rw[if_pos rfl];exact⟨B,ρ,d,k,s.trans h1,r,e,q.into (.grow s h1)⟩
  |false=>rw[if_neg (by decide)];exact⟨B,ρ,d,k,s.trans h1,r,e,q.into (.grow s h1)⟩
variable {es:List Expr}
theorem aj:JA X [] al:=PA.to dq λ_ _ _ h=>CV h
theorem ae (ha:JE X e f)(hr:JA X es g)(hs:starEach (e::es) X.env=(false,eval e X.env)::starEach es X.env:=by rfl):JA X (e::es) (ag f g):=PA.to (bI ha hr hs) λ_ _ _ h=>Ae h
@[simp] noncomputable def j0:List D->OB:=λds=>if ds.length<=sizeLine then some (.tup ds,false)else none
@[simp] noncomputable def aX:List D->OB:=λds=>if ds.length<=sizeLine then some (.lst ds,true)else none
theorem ib {x1}(h:JA X es f):JE X (.Tuple es x1 pos) (fA j0 f):=PE.to (zQ h) λσ H Q q=>by
 obtain⟨B,ρ,ds,s,r,e,k⟩:=CU q;refine⟨B,ρ,ds,s,r,e,λvs H1 N1 x1 i1=>?_⟩;obtain⟨B2,PQ,d,b,s2,i2,e2,k2⟩:=k vs H1 N1 x1 i1;unfold j0 at e2;split at e2
 ·rename_i hz;cases e2
  refine⟨by rw[i2.length];exact hz,λp hp=>k2 _ _ (upd B2 p (.tup vs)) (.laid s2 hp) (.tup (gA.of av) (i2.mono (Ext.laid s2 hp).bn)) (by simp)⟩
 ·cases e2
theorem aN (h:JA X es f):JE X (.List es pos) (fA aX f):=PE.to (uo h) λσ H Q q=>by
 obtain⟨B,ρ,ds,s,r,e,k⟩:=CU q;refine⟨B,ρ,ds,s,r,e,λvs H1 N1 x1 i1=>?_⟩;obtain⟨B2,PQ,d,b,s2,i2,e2,k2⟩:=k vs H1 N1 x1 i1;unfold aX at e2;split at e2
 ·rename_i hz;cases e2
  refine⟨by rw[i2.length];exact hz,λp hp=>k2 _ _ (upd B2 p (.lst vs)) (.laid s2 hp) (.lst (fO.of av) (i2.mono (Ext.laid s2 hp).bn)) λ_=>⟨p,vs,PQ,rfl,rfl,hp,av,i2.mono (Ext.laid s2 hp).bn⟩⟩
 ·cases e2
end
section
variable {X:Cx}
theorem iM (h:cA X f r)(k:∀x y H Q,r' x y H Q->r x y H Q):cA X f r':=λac s σ H x y v u Q I rx ry q=>h ac s σ H x y v u Q I rx ry (k x y H Q q)
noncomputable def Cq (f g:D->D->OB):D->D->OB:=λx y=>match f x y with|some r=>some r|none=>g x y
theorem mI (h:cA X s (rD X.K f))(h':cA X s (rD X.K g)):cA X s (rD X.K (Cq f g)):=by
 intro ac st σ H x y v u Q I rx ry q;obtain⟨B,dx,dy,d,b,sB,ix,iy,e,q⟩:=q;unfold Cq at e;split at e
 ·rename_i r ef;cases e
  exact h ac st σ H x y v u Q I rx ry ⟨B,dx,dy,_,_,sB,ix,iy,ef,q⟩
 ·exact h' ac st σ H x y v u Q I rx ry ⟨B,dx,dy,_,_,sB,ix,iy,e,q⟩
@[simp] noncomputable def o6 (C:Int->Int->Bool)(g:Int->Int->D):D->D->OB
 |.int i,.int j=>if C i j=true then some (g i j,false)else none
 |_,_=>none
theorem ie (h:cA X s (rI C g))(hC:∀i j,C' i j=true->C i j)(hg:∀i j B,Is X.K B (g i j) (g' i j)):cA X s (rD X.K (o6 C' g')):=by
 refine iM h λx y H Q q=>?_;obtain⟨B,dx,dy,d,b,sB,ix,iy,e,q⟩:=q;cases ix<;>try (cases e;done)
 cases iy<;>try (cases e;done)
 rename_i i j;simp only[o6]at e;split at e
 ·rename_i hc;cases e
  exact⟨i,j,rfl,rfl,hC i j hc,q.one sB (hg i j B)⟩
 ·cases e
theorem eQ (h:cA X s (zL g))(hg:∀i j B,Is X.K B (g i j) (g' i j)):cA X s (rD X.K (o6 (λ_ _=>true) g')):=by
 refine iM h λx y H Q q=>?_;obtain⟨B,dx,dy,d,b,sB,ix,iy,e,q⟩:=q;cases ix<;>try (cases e;done)
 cases iy<;>try (cases e;done)
 rename_i i j;simp only[o6,if_true]at e;cases e
 exact⟨i,j,rfl,rfl,q.one sB (hg i j B)⟩
abbrev GN:D->D->OB:=o6 (λ_ _=>true) λi j=>.int (i+j)
abbrev GO:D->D->OB:=o6 (λ_ _=>true) λi j=>.int (i - j)
abbrev JY:D->D->OB:=o6 (λi j=>decide ((-18446744073709551616<i/\i<18446744073709551616)∨(-18446744073709551616<j/\j<18446744073709551616))) λi j=>.int (i*j)
abbrev iN:D->D->OB:=o6 (λ_ j=>decide (0<j/\j<1073741824)) λi j=>.int (i / j)
abbrev dr:D->D->OB:=o6 (λ_ j=>decide (0<j)) λi j=>.int (i % j)
abbrev JZ:D->D->OB:=o6 (λi j=>decide (0<=j/\j<=1000000/\i.natAbs<18446744073709551616)) λi j=>.int (i ^ j.toNat)
abbrev Ka:D->D->OB:=o6 (λ_ j=>decide (0<=j)) λi j=>.int (i / 2 ^ j.toNat)
abbrev Kb:D->D->OB:=o6 (λ_ _=>true) λi j=>.int (Builtin.bitAnd i j)
abbrev Pl:D->D->OB:=o6 (λ_ _=>true) λi j=>.bl (decide (i<j))
abbrev Ng:D->D->OB:=o6 (λ_ _=>true) λi j=>.bl (decide (i<=j))
abbrev Ml:D->D->OB:=o6 (λ_ _=>true) λi j=>.bl (decide (j<i))
abbrev Pm:D->D->OB:=o6 (λ_ _=>true) λi j=>.bl (decide (j<=i))
theorem Kc:cA X (binaryOp .Add) (rD X.K GN):=eQ Gx λ_ _ _=>.int _
theorem EY:cA X (binaryOp .Sub) (rD X.K GO):=eQ Gy λ_ _ _=>.int _
theorem Kd:cA X (binaryOp .Mult) (rD X.K JY):=ie Gz (λi j h=>by have h:=of_decide_eq_true h;unfold CA;omega) λ_ _ _=>.int _
theorem ig:cA X (binaryOp .FloorDiv) (rD X.K iN):=ie CB (λi j h=>by have h:=of_decide_eq_true h;unfold J6;omega) λ_ _ _=>.int _
theorem eG:cA X (binaryOp .Mod) (rD X.K dr):=ie G0 (λ_ _ h=>of_decide_eq_true h) λ_ _ _=>.int _
theorem Ke:cA X (binaryOp .Pow) (rD X.K JZ):=ie G1 (λi j h=>by have h:=of_decide_eq_true h;unfold C9;omega) λ_ _ _=>.int _
theorem Kf:cA X (binaryOp .RShift) (rD X.K Ka):=ie G3 (λ_ _ h=>of_decide_eq_true h) λ_ _ _=>.int _
theorem Kg:cA X (binaryOp .BitAnd) (rD X.K Kb):=eQ G4 λ_ _ _=>.int _
theorem Nh:cA X (compareOp .Lt) (rD X.K Pl):=eQ J8 λ_ _ _=>.bl _
theorem Ni:cA X (compareOp .LtE) (rD X.K Ng):=eQ J9 λ_ _ _=>.bl _
theorem GP:cA X (compareOp .Gt) (rD X.K Ml):=eQ JB λ_ _ _=>.bl _
theorem Nj:cA X (compareOp .GtE) (rD X.K Pm):=eQ JD λ_ _ _=>.bl _
@[simp] noncomputable def IQ (C:Str->Str->Bool)(g:Str->Str->D):D->D->OB
 |.str i,.str j=>if C i j=true then some (g i j,false)else none
 |_,_=>none
abbrev Di:D->D->OB:=IQ (λi j=>decide (i.length+j.length<=sizeLine)) λi j=>.str (i++j)
abbrev Mm:D->D->OB:=IQ (λ_ _=>true) λi j=>.bl (!decide (j.cps.toList<i.cps.toList))
theorem GQ:cA X (binaryOp .Add) (rD X.K Di):=by
 refine iM uj λx y H Q q=>?_;obtain⟨B,dx,dy,d,b,sB,ix,iy,e,q⟩:=q;cases ix<;>try (cases e;done)
 cases iy<;>try (cases e;done)
 rename_i i j;simp only[Di,IQ]at e;split at e
 ·rename_i hc;cases e
  exact⟨i,j,rfl,rfl,of_decide_eq_true hc,q.one sB (.str _)⟩
 ·cases e
theorem Kh:cA X (compareOp .LtE) (rD X.K Mm):=by
 intro ac s σ H x y v u Q I rx ry q;obtain⟨B,dx,dy,d,b,sB,ix,iy,e,q⟩:=q;cases ix<;>try (cases e;done)
 cases iy<;>try (cases e;done)
 rename_i i j;simp only[Mm,IQ,if_true]at e;cases e
 obtain⟨t,rfl⟩:=rx;obtain⟨t',rfl⟩:=ry;exact PySem.P.le_str ⟨.bl _,H,I,rfl,q.one sB (.bl _)⟩
end
section
variable {X:Cx}{a b c e:Expr}{pos:Pos}{st:Stmt}{rest:List Stmt}
theorem iO:rg X [] aJ:=lD.to mh λ_ _ _ h=>rJ h
theorem ak (h1:JS X st g)(h2:rg X rest h):rg X (st::rest) (ay g h):=lD.to (dv h1 h2) λ_ _ _ q=>wI q
theorem cO (h1:JS X st g):rg X [st] g:=hV h1
theorem lG {c:Expr}{a b:List Stmt}{fc:FT}{g h:FS}(hc:JT X c fc)(ha:rg X a g)(hb:rg X b h):JS X (.If c a b pos) (cY fc g h):=PS.to (w4 hc ha hb) λ_ _ _ q=>Ag q
theorem Am (he:JE X e f):JS X (.Return (some e) pos) (aI f):=PS.to (la he) λ_ _ _ q=>q0 q
theorem wM (i:Nat)(hN:X.N[i]? = some x:=by rfl)(hv:Cm X.env.scope x:=by first|exact Or.inl rfl|exact Or.inr (Or.inl rfl)|exact Or.inr (Or.inr rfl))(hd:(x == ("__debug__" : Str))=false:=by decide)
  (gH:(x == ("__classdict__" : Str))=false:=by decide):JS X (.Return (some (.Name x p)) pos) (mC i):=PS.to (la (dR hN hv hd gH)) λ_ _ _ q=>Ah q
theorem aH (hN:X.N.Nodup)(he:JE X e f)(hi:X.N[i]? = some x:=by rfl)(hx:EK X.env.scope x:=by first|exact Or.inl rfl|exact Or.inr rfl)(hs:swapsWith e (some (.Name x p)) pos.line X.env=pure false:=by rfl)
  (hf:X.fn x=true∨X.env.scope.names.lookup x=some .local:=by first|exact .inl rfl|exact .inr rfl):JS X (.Assign [.Name x p] e pos) (aP i f):=PS.to (hW hN hi hx he hs hf) λ_ _ _ q=>q8 q
theorem GR (hp:PassesOwn (model X.prog X.w) X.A X.env X.xe)(hc:X.calm=true)(hi:JI X tg cj fi)(hg:PG X tg t)(ht:Cp X.K lQ t)(hb:rg X body g)
  (hs:∀x,foldedSetIterable cj X.env x=pure x:=by intro _;rfl):JS X (.For tg cj body [] pos) (mD fi lQ g):=PS.to (ug hp hc hi hg hb hs) λ_ _ _ q=>CY ht q
theorem Dj (hp:PassesOwn (model X.prog X.w) X.A X.env X.xe)(hc:X.calm=true)(hi:PI X tg cj (IN X.K fi))(hg:PG X tg t)(ht:Cp X.K lQ t)(hb:rg X body g)
  (hs:∀x,foldedSetIterable cj X.env x=pure x:=by intro _;rfl):JS X (.For tg cj body [] pos) (gK fi lQ g):=PS.to (ug hp hc hi hg hb hs) λ_ _ _ q=>rL ht q
theorem uz (he:JE X e f)(hN:X.N[i]? = some x:=by rfl)(hv:Cm X.env.scope x:=by first|exact Or.inl rfl|exact Or.inr (Or.inl rfl)|exact Or.inr (Or.inr rfl))(hd:(x == ("__debug__" : Str))=false:=by decide)
  (gH:(x == ("__classdict__" : Str))=false:=by decide)
  (gl:attributeBase (.Name x p) "append" X.env (eval (.Name x p) X.env)=eval (.Name x p) X.env:=by rfl)
  (om:((backTo bU (starEach [e] X.env)).all (λx=>!x.1) && (backToKw bU (keywordEach [] X.env)).all (λx=>x.1.isSome)
   && decide ([e].length+([]:List Keyword).length+(if([]:List Keyword).isEmpty then 0 else 1)<30))=true:=by rfl)
  (gm:(eW.endLine == bU.line)=true:=by rfl) (hs:starEach [e] X.env=[(false,eval e X.env)]:=by rfl) (EA:swapsWith (.Call (.Attribute (.Name x p) "append" eW) [e] [] bU) none pos.line X.env=pure false:=by rfl):
  JS X (.Expr (.Call (.Attribute (.Name x p) "append" eW) [e] [] bU) pos) (rH i f):=by
 refine PS.to (wz (rC PySem.F.plainAttrs_list PySem.F.slot_list_append PySem.F.type_list_append oS (dR hN hv hd gH) (bI he dq hs) gl om gm hs rfl) EA) λE σ H q=>?_;obtain⟨a,us,h1,h2,k⟩:=CW q;exact⟨_,h1,.inl ⟨rfl,us,fO.of h2⟩,k⟩
end
@[simp] noncomputable def aR (g:FS)(n k:Nat):List D->OB:=λds=>if ds.length=n then
 match g (ds.map (λd=>some (d,false))++List.replicate k none) with
 |some (.rt d b)=>some (d,b)
 |some (.nx _)=>some (.non,false)
 |_=>none
 else none
def Cr (K:Frag)(f:List D->OB):Sp:=λvs H Q _=>∃(B:Hp)(ds:List D)(d:D)(b:Bool),(aQ B H/\Tb K B)/\IsL K B vs ds/\f ds=some (d,b)/\Fin K B H d b Q
theorem mJ {K:Frag}{B H:Hp}{vs:List V}{ds:List D}{N:List Str}(sB:aQ B H)(tb:Tb K B)(i:IsL K B vs ds):dP K B H B H (L2.gv N vs) (ds.map (λd=>some (d,false))++List.replicate (N.length - vs.length) none):=by
 have nf:∀(j:Nat)(d:D)(b:Bool),(ds.map (λd=>some (d,false))++List.replicate (N.length - vs.length) none:Env)[j]? = some (some (d,b))->b=false/\ds[j]? = some d:=λj d b e=>by
  by_cases hj:j<ds.length
  ·rw[List.getElem?_append_left (by simpa using hj),vB]at e;obtain⟨d',h1,h2⟩:=oY e;cases h2
   exact⟨rfl,h1⟩
  ·rw[List.getElem?_append_right (by simpa using Nat.not_lt.mp hj),List.getElem?_replicate]at e;split at e<;>cases e
 have no:∀a,¬own (L2.gv N vs) (ds.map (λd=>some (d,false))++List.replicate (N.length - vs.length) none) a:=λa ⟨j,d,h,_⟩=>by
  obtain⟨z,_⟩:=nf j d true h;cases z
 refine⟨sB,tb,.refl sB,?_,λj d e=>?_,λj d e=>?_,λj k a d e h=>?_⟩
 ·unfold L2.gv;rw[vA,vA,vI,vI,List.length_replicate,List.length_replicate,i.length]
 ·obtain⟨_,e1⟩:=nf j d false e;obtain⟨v,h1,h2⟩:=i.get e1;refine⟨v,?_,h2.mono λa o e=>by rw[cG (no a)];exact e⟩;unfold L2.gv;have hj:j<vs.length:=(vV h1).1;rw[List.getElem?_append_left (by simpa using hj),vB,h1]<;>rfl
 ·obtain⟨z,_⟩:=nf j d true e;cases z
 ·obtain⟨z,_⟩:=nf j d true h;cases z
section
variable {P:Program}{w:World}{K:Frag}{mg:Str->Option Value}{base:Heap}
theorem Ki {x qual:Str}{st:Stmt}{f:Addr}{fd:FuncData}{N ps:List Str}{k:Nat}{g:FS}(F:Cy K x qual st f fd)(S:FnScope N ps (ax st))
  (hb:∀(cf:Value)(A:Around)(outer:List PySem.Env)(s:Shared)(H:Hp)(E:XK),cC k (A.deeper (envOfC qual (ax st) s.heap.objs.size f cf))->rg (dG ml P w K mg base N qual (ax st) f cf A outer s H E).nox (bp st) g):
  fH P w K mg base ml (k+1) f fd ps (Cr K (aR g ps.length (N.length - ps.length))):=by
 have len:∀vs H Q E,Cr K (aR g ps.length (N.length - ps.length)) vs H Q E->vs.length=ps.length:=λvs H Q E h=>by
  obtain⟨B,ds,d,b,sB,i,e,q⟩:=h;unfold aR at e;split at e
  ·rename_i hl;rw[i.length];exact hl
  ·cases e
 refine F.ok S len λcf A outer s H vs Q E hr h=>⟨_,hb cf A outer s H E hr,?_⟩;have bC:=len vs H Q E h;obtain⟨B,ds,d,b,sB,i,e,q⟩:=h;unfold aR at e;rw[if_pos (by rw[←i.length];exact bC)]at e;have s0:=mJ (N:=N) sB.1 sB.2 i;rw[bC]at s0;split at e
 ·rename_i d' b' eg;cases e
  exact⟨B,H,_,_,⟨B,s0⟩,eg,λv H' N' x' i' f'=>q v H' N' x' i' f'⟩
 ·rename_i ρ' eg;cases e
  exact⟨B,H,_,_,⟨B,s0⟩,eg,λσ' H' ⟨N',s'⟩=>q .non H' N' s'.ext .non (by simp)⟩
 ·cases e
structure Fn (P:Program)(w:World)(K:Frag)(mg:Str->Option Value)(base:Heap)(k:Nat)(x:Str)(f:List D->OB):Prop where
 ex:∃(ad:Addr)(fd:FuncData)(ps:List Str),fH P w K mg base ml k ad fd ps (Cr K f)/\mg x=some (.ref ad)/\PySem.W.keepIn K (.ref ad)=true/\fm K fd ps []
theorem Fn.eq (F:Fn P w K mg base k x f)(h:∀ds r,f' ds=some r->f ds=some r):Fn P w K mg base k x f':=by
 obtain⟨ad,fd,ps,F1,h2⟩:=F.ex;exact⟨ad,fd,ps,F1.imp λvs H Q E ⟨B,ds,d,b,sB,i,e,q⟩=>⟨B,ds,d,b,sB,i,h _ _ e,q⟩,h2⟩
end
theorem wN (F:Fn X.prog X.w X.K X.mg X.base k x f)(hr:cC k X.A)(ha:JA X (e::es) fa)(hg:Gl X x:=by rfl)
  (jW:(x == ("__debug__" : Str))=false:=by decide) (he:starEach (e::es) X.env=(false,eval e X.env)::starEach es X.env:=by rfl) (hpl:(backTo pos (starEach es X.env)).any (·.1)=false:=by rfl):
  JE X (.Call (.Name x p) (e::es) [] pos) (fA f fa):=by
 obtain⟨ad,fd,ps,F1,hm,hk,hb⟩:=F.ex;refine PE.to (wB F1 hr hg hm hk hb .nil ER ha jW he hpl) λσ H Q q=>?_;obtain⟨B,ρ,d,b,s,r,e,q⟩:=q;obtain⟨ds,ex,e⟩:=oX e;exact⟨B,ρ,ds,s,r,ex,λvs H1 N1 x1 i1=>by
  show Cr X.K f (vs++[]) H1 Q _;rw[uQ];exact⟨N1,ds,d,b,⟨x1.nh,r.tb.mono x1.bn⟩,i1,e,q.into x1⟩⟩
mutual
@[simp] def du:D->D->Bool
 |.non,.non=>true
 |.bl a,.bl b=>a == b
 |.bl a,.int b=>decide ((if a then 1 else 0)=b)
 |.int a,.bl b=>decide (a=(if b then 1 else 0))
 |.int a,.int b=>decide (a=b)
 |.str a,.str b=>decide (a=b)
 |.tup xs,.tup ys=>jG xs ys
 |.lst xs,.lst ys=>jG xs ys
 |_,_=>false
@[simp] def jG:List D->List D->Bool
 |[],[]=>true
 |x::xs,y::ys=>du x y && jG xs ys
 |_,_=>false
end
@[simp] theorem rO (a:Str)(b:Str):du (.str a) (.str b)=decide (a=b):=by simp only[du]
@[simp] noncomputable def bW:Nat->D->Bool
 |_,.non=>true
 |_,.bl _=>true
 |_,.int _=>true
 |_,.str _=>true
 |_,.ty _=>false
 |_,.dk _ _=>false
 |_,.dt _ _=>false
 |0,.tup _=>false
 |0,.lst _=>false
 |n+1,.tup ds=>ds.all (bW n)
 |n+1,.lst ds=>ds.all (bW n)
theorem rP:∀ {xs ys:List D},jG xs ys=true->xs.length=ys.length
 |[],[],_=>rfl
 |x::xs,y::ys,h=>by
  simp only[jG,vD]at h;rw[vE,vE,rP h.2]
 |[],_::_,h=>by simp[jG]at h
 |_::_,[],h=>by simp[jG]at h
theorem wO (h:xs.length≠ys.length):jG xs ys=false:=by
 cases e:jG xs ys with
 |false=>rfl
 |true=>exact absurd (rP e) h
theorem jH (f:Nat->Bool):∀ {xs ys:List D},xs.length=ys.length->(∀(j:Nat) x y,xs[j]? = some x->ys[j]? = some y->f j=du x y)->(List.range xs.length).all f=jG xs ys
 |[],[],_,_=>by simp[jG]
 |x::xs,y::ys,hl,h=>by
  have e:=jH (λj=>f (j+1)) (xs:=xs) (ys:=ys) (by simpa using hl) λj a b h1 h2=>h (j+1) a b (by simpa using h1) (by simpa using h2);rw[vE,List.range_succ_eq_map,List.all_cons,List.all_map,jG,←h 0 x y rfl rfl,←e];rfl
 |[],_::_,hl,_=>by simp at hl
 |_::_,[],hl,_=>by simp at hl
section
variable {X:Cx}{ac:List (Addr×Obj)}{σ:St}{H:Hp}{s:Shared}
theorem wP (I:Inv X ac σ H s)(h1:gA X.K H a vs)(h2:fO X.K H a ws):False:=by
 obtain⟨its,_,⟨o,e,c,_⟩,_⟩:=I.tuple h1;obtain⟨its',_,⟨o',n',e',c',_⟩,_⟩:=I.list h2;rw[e]at e';cases e';rw[c]at c';injection c' with z;exact absurd z (by decide)
theorem wQ (I:Inv X ac σ H s)(e:s.heap.get? a=some o)(d:o.data=.seq its n):(∀bE ob,H a≠some (.dK bE ob))/\∀bE,H a≠some (.dT bE):=by
 refine⟨λbE ob h=>?_,λbE h=>?_⟩
 ·obtain⟨_,_,_,_,_,o',es,ep,e',_,d',_⟩:=(show bF X.prog X.w H s.heap a (.dK bE ob)from I.hok a _ h);rw[e]at e';cases e';rw[d]at d';cases d'
 ·obtain⟨_,_,_,_,o',es,ep,e',_,d',_⟩:=(show bF X.prog X.w H s.heap a (.dT bE)from I.hok a _ h);rw[e]at e';cases e';rw[d]at d';cases d'
theorem rQ (I:Inv X ac σ H s)(h1:gA X.K H a vs):(∀bE ob,H a≠some (.dK bE ob))/\∀bE,H a≠some (.dT bE):=by
 obtain⟨its,_,⟨o,e,c,n,d⟩,_⟩:=I.tuple h1;exact wQ I e d
theorem rR (I:Inv X ac σ H s)(h1:fO X.K H a vs):(∀bE ob,H a≠some (.dK bE ob))/\∀bE,H a≠some (.dT bE):=by
 obtain⟨its,_,p,_⟩:=I.list h1;obtain⟨o,e,c,n,d⟩:=p.isList;exact wQ I e d
theorem wR (I:Inv X ac σ H s):∀(n:Nat){v:V}{d d':D},Is X.K H v d->Is X.K H v d'->bW n d=true->du d d'=true:=by
 have lists:∀ {p:D->Bool}(ih:∀ {v:V}{d d':D},Is X.K H v d->Is X.K H v d'->p d=true->du d d'=true) {vs:List V}{ds BZ:List D},IsL X.K H vs ds->IsL X.K H vs BZ->ds.all p=true->jG ds BZ=true:=by
  intro p ih vs;induction vs with
  |nil=>intro ds BZ h h' _;cases h;cases h';simp[jG]
  |cons v vs Ry=>
   intro ds BZ h h' hp;cases h with
   |cons h1 h2=>
    cases h' with
    |cons h3 h4=>
     rw[List.all_cons,vD]at hp;rw[jG,ih h1 h3 hp.1,Ry h2 h4 hp.2];rfl
 intro n;induction n with
 |zero=>
  intro v d d' h h' hp;cases h<;>cases h'<;>first|(simp[bW]at hp;done)|simp[du]
 |succ n ih=>
  intro v d d' h h' hp;cases h with
  |tup h1 h2=>
   cases h' with
   |tup h3 h4=>
    rw[I.tuple_inj h3 h1]at h4;rw[du];exact lists ih h2 h4 (by simpa [bW]using hp)
   |lst h3 h4=>exact(wP I h1 h3).elim
   |dk h3 _ _=>exact((rQ I h1).1 _ _ h3).elim
   |dt h3 _ _=>exact((rQ I h1).2 _ h3).elim
  |lst h1 h2=>
   cases h' with
   |lst h3 h4=>
    rw[I.list_inj h3 h1]at h4;rw[du];exact lists ih h2 h4 (by simpa [bW]using hp)
   |tup h3 h4=>exact(wP I h3 h1).elim
   |dk h3 _ _=>exact((rR I h1).1 _ _ h3).elim
   |dt h3 _ _=>exact((rR I h1).2 _ h3).elim
  |ty=>simp[bW]at hp
  |dk=>simp[bW]at hp
  |dt=>simp[bW]at hp
  |_=>cases h'<;>simp[du]
theorem EZ {α:Type}{p:α->Bool}{l:List α}{j:Nat}{x:α}(h:l.all p=true)(e:l[j]? = some x):p x=true:=uR h x (List.mem_of_getElem? e)
theorem rS {A:Around}{p:D->Bool}(ih:∀ {v1 v2:V}{d1 d2:D}{u1 u2:Value},p d1=true->p d2=true->Is X.K H v1 d1->Is X.K H v2 d2->aL v1 u1->aL v2 u2->SeqAt.EqAt A s u1 u2 (du d1 d2))
  {vs ws:List V}{ds es:List D}{its oG:List Value}(i1:IsL X.K H vs ds) (i2:IsL X.K H ws es) (r1:aS vs its) (r2:aS ws oG) (p1:ds.all p=true) (p2:es.all p=true):
  ∀j (h1:j<its.toArray.size) (h2:j<oG.toArray.size),SeqAt.EqAt A s its.toArray[j] oG.toArray[j] (du (ds.getD j .non) (es.getD j .non)):=by
 intro j h1 h2;rw[vH]at h1 h2;have l1:=r1.length;have l2:=r2.length;have l3:=i1.length;have l4:=i2.length;have hv:j<vs.length:=by omega
 have hw:j<ws.length:=by omega
 have hd:j<ds.length:=by omega
 have he:j<es.length:=by omega
 obtain⟨u,e1,q1⟩:=r1.get (i:=j) (x:=vs[j]) (by simp[hv]);obtain⟨u',e2,q2⟩:=r2.get (i:=j) (x:=ws[j]) (by simp[hw]);obtain⟨v,e3,q3⟩:=i1.get (i:=j) (d:=ds[j]) (by simp[hd]);obtain⟨w,e4,q4⟩:=i2.get (i:=j) (d:=es[j]) (by simp[he]);have a1:its.toArray[j]=u:=by have z:=(vV e1).2;simpa using z
 have a2:oG.toArray[j]=u':=by have z:=(vV e2).2;simpa using z
 have a3:vs[j]=v:=by simpa [hv]using e3
 have a4:ws[j]=w:=by simpa [hw]using e4
 have a5:ds.getD j .non=ds[j]:=by simp[List.getD,hd]
 have a6:es.getD j .non=es[j]:=by simp[List.getD,he]
 rw[a1,a2,a5,a6];exact ih (EZ p1 (j:=j) (by simp[hd])) (EZ p2 (j:=j) (by simp[he])) (a3 ▸ q3) (a4 ▸ q4) q1 q2
theorem wS {xs ys:List D}(j:Nat)(x y:D)(h1:xs[j]? = some x)(h2:ys[j]? = some y):du (xs.getD j .non) (ys.getD j .non)=du x y:=by
 simp[List.getD,h1,h2]
abbrev Nk (A:Around)(s:Shared)(u1 u2:Value)(b:Bool):Prop:=SeqAt.RcAt A s u1 u2 b/\SeqAt.EqAt A s u1 u2 b/\SeqAt.RcNeAt A s u1 u2 (!b)
theorem wT {a1 a2:Addr}(rc:SeqAt.RcAt A s (.ref a1) (.ref a2) b)(rn:SeqAt.RcNeAt A s (.ref a1) (.ref a2) (!b))(h:a1=a2->b=true):Nk A s (.ref a1) (.ref a2) b:=by
 refine⟨rc,?_,rn⟩;by_cases ha:a1=a2
 ·subst ha;rw[h rfl];exact SeqAt.EqAt.same _
 ·exact SeqAt.EqAt.of_refs ha rc
theorem rT (p1:bW 0 d1=true)(p2:bW 0 d2=true)(i1:Is X.K H v1 d1)(i2:Is X.K H v2 d2)(r1:aL v1 u1)(r2:aL v2 u2):Nk A s u1 u2 (du d1 d2):=by
 cases i1 with
 |non=>
  cases r1
  cases i2 with
  |non=>cases r2;rw[du];exact⟨.none_none,.same _,.none_none⟩
  |bl b=>cases r2;simp only[du];exact⟨.none_bool _,.none_bool _,.none_bool _⟩
  |int b=>obtain⟨t',rfl⟩:=r2;simp only[du];exact⟨.none_int _ _,.none_int _ _,.none_int _ _⟩
  |str b=>obtain⟨t',rfl⟩:=r2;simp only[du];exact⟨.none_str _ _,.none_str _ _,.none_str _ _⟩
  |_=>simp at p2
 |bl a=>
  cases r1
  cases i2 with
  |non=>cases r2;simp only[du];exact⟨.bool_none _,.bool_none _,.bool_none _⟩
  |bl b=>cases r2;rw[du];exact⟨.bool_bool _ _,.bool_bool _ _,.bool_bool _ _⟩
  |int b=>obtain⟨t',rfl⟩:=r2;rw[du,←Bool.beq_eq_decide_eq];exact⟨.bool_int _ _ _,.bool_int _ _ _,.bool_int _ _ _⟩
  |str b=>obtain⟨t',rfl⟩:=r2;simp only[du];exact⟨.bool_str _ _ _,.bool_str _ _ _,.bool_str _ _ _⟩
  |_=>simp at p2
 |int a=>
  obtain⟨t,rfl⟩:=r1;cases i2 with
  |non=>cases r2;simp only[du];exact⟨.int_none _ _,.int_none _ _,.int_none _ _⟩
  |bl b=>cases r2;rw[du,←Bool.beq_eq_decide_eq];exact⟨.int_bool _ _ _,.int_bool _ _ _,.int_bool _ _ _⟩
  |int b=>obtain⟨t',rfl⟩:=r2;rw[du,←Bool.beq_eq_decide_eq];exact⟨.int_int _ _ _ _,.int_int _ _ _ _,.int_int _ _ _ _⟩
  |str b=>obtain⟨t',rfl⟩:=r2;simp only[du];exact⟨.int_str _ _ _ _,.int_str _ _ _ _,.int_str _ _ _ _⟩
  |_=>simp at p2
 |str a=>
  obtain⟨t,rfl⟩:=r1;cases i2 with
  |non=>cases r2;simp only[du];exact⟨.str_none _ _,.str_none _ _,.str_none _ _⟩
  |bl b=>cases r2;simp only[du];exact⟨.str_bool _ _ _,.str_bool _ _ _,.str_bool _ _ _⟩
  |int b=>obtain⟨t',rfl⟩:=r2;simp only[du];exact⟨.str_int _ _ _ _,.str_int _ _ _ _,.str_int _ _ _ _⟩
  |str b=>obtain⟨t',rfl⟩:=r2;rw[du,←Bool.beq_eq_decide_eq];exact⟨.str_str _ _ _ _,.str_str _ _ _ _,.str_str _ _ _ _⟩
  |_=>simp at p2
 |_=>simp at p1
theorem Fa (I:Inv X ac σ H s):∀(n:Nat){A:Around}{v1 v2:V}{d1 d2:D}{u1 u2:Value},A.units+n<cLine->bW n d1=true->bW n d2=true->Is X.K H v1 d1->Is X.K H v2 d2->aL v1 u1->aL v2 u2->Nk A s u1 u2 (du d1 d2):=by
 intro n;induction n with
 |zero=>exact λ_ p1 p2 i1 i2 r1 r2=>rT p1 p2 i1 i2 r1 r2
 |succ n ih=>
  intro A v1 v2 d1 d2 u1 u2 hu p1 p2 i1 i2 r1 r2;have dQ:A.units<cLine:=by omega
  have Ly:∀ {v1 v2:V}{d1 d2:D}{u1 u2:Value},bW n d1=true->bW n d2=true->Is X.K H v1 d1->Is X.K H v2 d2->aL v1 u1->aL v2 u2->SeqAt.EqAt A.in1 s u1 u2 (du d1 d2):=λp1 p2 i1 i2 r1 r2=>(ih (A:=A.in1) (by show A.units+1+n<cLine;omega) p1 p2 i1 i2 r1 r2).2.1;by_cases f2:bW 0 d2=true
  ·by_cases f1:bW 0 d1=true
   ·exact rT f1 f2 i1 i2 r1 r2
   ·cases i1 with
    |tup h1 k1=>
     cases r1
     obtain⟨its,EB,t1,z1⟩:=I.tuple h1;cases i2 with
     |non=>cases r2;simp only[du];exact⟨.tuple_none t1 dQ,.tuple_none t1 dQ,.tuple_none t1 dQ⟩
     |bl=>cases r2;simp only[du];exact⟨.tuple_bool _ t1 dQ,.tuple_bool _ t1 dQ,.tuple_bool _ t1 dQ⟩
     |int=>obtain⟨t,rfl⟩:=r2;simp only[du];exact⟨.tuple_int _ _ t1 dQ,.tuple_int _ _ t1 dQ,.tuple_int _ _ t1 dQ⟩
     |str=>obtain⟨t,rfl⟩:=r2;simp only[du];exact⟨.tuple_str _ _ t1 dQ,.tuple_str _ _ t1 dQ,.tuple_str _ _ t1 dQ⟩
     |_=>simp at f2
    |lst h1 k1=>
     cases r1
     obtain⟨its,EB,t1,z1⟩:=I.list h1;replace t1:=t1.isList;cases i2 with
     |non=>cases r2;simp only[du];exact⟨.list_none t1 dQ,.list_none t1 dQ,.list_none t1 dQ⟩
     |bl=>cases r2;simp only[du];exact⟨.list_bool _ t1 dQ,.list_bool _ t1 dQ,.list_bool _ t1 dQ⟩
     |int=>obtain⟨t,rfl⟩:=r2;simp only[du];exact⟨.list_int _ _ t1 dQ,.list_int _ _ t1 dQ,.list_int _ _ t1 dQ⟩
     |str=>obtain⟨t,rfl⟩:=r2;simp only[du];exact⟨.list_str _ _ t1 dQ,.list_str _ _ t1 dQ,.list_str _ _ t1 dQ⟩
     |_=>simp at f2
    |_=>simp at f1 p1
  ·cases i2 with
   |tup h2 k2=>
    cases r2
    obtain⟨oG,LB,t2,z2⟩:=I.tuple h2;cases i1 with
    |tup h1 k1=>
     cases r1
     obtain⟨its,EB,t1,z1⟩:=I.tuple h1;rename_i a2 ws es a1 vs ds;have he:=rS (A:=A.in1) (p:=bW n) Ly k1 k2 EB LB (by simpa using p1) (by simpa using p2);have Oj:((List.range (min its.toArray.size oG.toArray.size)).all (λj=>du (ds.getD j .non) (es.getD j .non)) && its.toArray.size == oG.toArray.size)=du (.tup ds) (.tup es):=by
      rw[du,vH,vH,←EB.length,←LB.length,k1.length,k2.length];by_cases hl:ds.length=es.length
      ·rw[←hl,Nat.min_self,beq_self_eq_true,Bool.and_true];exact jH _ hl λj x y e1 e2=>wS j x y e1 e2
      ·rw[wO hl,beq_eq_false_iff_ne.mpr hl,Bool.and_false]
     have rc:=SeqAt.RcAt.tuples t1 t2 dQ he;have rn:=SeqAt.RcNeAt.tuples t1 t2 dQ he;rw[Oj]at rc rn;exact wT rc rn λe=>by subst e;exact wR I (n+1) (.tup h1 k1) (.tup h2 k2) p1
    |lst h1 k1=>cases r1;obtain⟨its,EB,t1,z1⟩:=I.list h1;simp only[du];exact⟨.list_tuple t1.isList t2 dQ,.list_tuple t1.isList t2 dQ,.list_tuple t1.isList t2 dQ⟩
    |non=>cases r1;simp only[du];exact⟨.none_tuple t2 dQ,.none_tuple t2 dQ,.none_tuple t2 dQ⟩
    |bl=>cases r1;simp only[du];exact⟨.bool_tuple _ t2 dQ,.bool_tuple _ t2 dQ,.bool_tuple _ t2 dQ⟩
    |int=>obtain⟨t,rfl⟩:=r1;simp only[du];exact⟨.int_tuple _ _ t2 dQ,.int_tuple _ _ t2 dQ,.int_tuple _ _ t2 dQ⟩
    |str=>obtain⟨t,rfl⟩:=r1;simp only[du];exact⟨.str_tuple _ _ t2 dQ,.str_tuple _ _ t2 dQ,.str_tuple _ _ t2 dQ⟩
    |_=>simp at p1
   |lst h2 k2=>
    cases r2
    obtain⟨oG,LB,t2,z2⟩:=I.list h2;replace t2:=t2.isList;cases i1 with
    |lst h1 k1=>
     cases r1
     obtain⟨its,EB,t1,z1⟩:=I.list h1;replace t1:=t1.isList;rename_i a2 ws es a1 vs ds;have he:=rS (A:=A.in1) (p:=bW n) Ly k1 k2 EB LB (by simpa using p1) (by simpa using p2);have both:SeqAt.RcAt A s (.ref a1) (.ref a2) (du (.lst ds) (.lst es))/\SeqAt.RcNeAt A s (.ref a1) (.ref a2) (!du (.lst ds) (.lst es)):=by
      have hz:its.toArray.size=ds.length/\oG.toArray.size=es.length:=by rw[vH,vH,←EB.length,←LB.length,k1.length,k2.length];exact⟨rfl,rfl⟩
      by_cases hl:ds.length=es.length
      ·have Oj:(List.range its.toArray.size).all (λj=>du (ds.getD j .non) (es.getD j .non))=du (.lst ds) (.lst es):=by
        rw[du,hz.1];exact jH _ hl λj x y e1 e2=>wS j x y e1 e2
       have hs:=(hz.1.trans hl).trans hz.2.symm;have rc:=SeqAt.RcAt.lists t1 t2 hs dQ he;have rn:=SeqAt.RcNeAt.lists t1 t2 hs dQ he;rw[Oj]at rc rn;exact⟨rc,rn⟩
      ·have hs:(its.toArray.size != oG.toArray.size)=true:=by rw[hz.1,hz.2];exact bne_iff_ne.mpr hl
       rw[du,wO hl];exact⟨.lists_lengths t1 t2 hs dQ,.lists_lengths t1 t2 hs dQ⟩
     exact wT both.1 both.2 λe=>by subst e;exact wR I (n+1) (.lst h1 k1) (.lst h2 k2) p1
    |tup h1 k1=>cases r1;obtain⟨its,EB,t1,z1⟩:=I.tuple h1;simp only[du];exact⟨.tuple_list t1 t2 dQ,.tuple_list t1 t2 dQ,.tuple_list t1 t2 dQ⟩
    |non=>cases r1;simp only[du];exact⟨.none_list t2 dQ,.none_list t2 dQ,.none_list t2 dQ⟩
    |bl=>cases r1;simp only[du];exact⟨.bool_list _ t2 dQ,.bool_list _ t2 dQ,.bool_list _ t2 dQ⟩
    |int=>obtain⟨t,rfl⟩:=r1;simp only[du];exact⟨.int_list _ _ t2 dQ,.int_list _ _ t2 dQ,.int_list _ _ t2 dQ⟩
    |str=>obtain⟨t,rfl⟩:=r1;simp only[du];exact⟨.str_list _ _ t2 dQ,.str_list _ _ t2 dQ,.str_list _ _ t2 dQ⟩
    |_=>simp at p1
   |_=>simp at f2 p2
@[simp] def eB:D->D->OB:=λx y=>if bW 40 x=true/\bW 40 y=true then some (.bl (du x y),false)else none
@[simp] def ua:D->D->OB:=λx y=>if bW 40 x=true/\bW 40 y=true then some (.bl (!du x y),false)else none
theorem cB (hu:X.A.units+40<cLine):cA X (compareOp .Eq) (rD X.K eB):=by
 intro ac s σ H x y v u Q I rx ry q;obtain⟨B,dx,dy,d,b,sB,ix,iy,e,q⟩:=q;unfold eB at e;split at e
 ·rename_i hp;cases e
  exact(Fa I 40 hu hp.1 hp.2 (ix.mono sB) (iy.mono sB) rx ry).1 _ _ _ _ ⟨.bl _,H,I,rfl,q.one sB (.bl _)⟩
 ·cases e
theorem lU (hu:X.A.units+40<cLine):cA X (compareOp .NotEq) (rD X.K ua):=by
 intro ac s σ H x y v u Q I rx ry q;obtain⟨B,dx,dy,d,b,sB,ix,iy,e,q⟩:=q;unfold ua at e;split at e
 ·rename_i hp;cases e
  exact(Fa I 40 hu hp.1 hp.2 (ix.mono sB) (iy.mono sB) rx ry).2.2 _ _ _ _ ⟨.bl _,H,I,rfl,q.one sB (.bl _)⟩
 ·cases e
end
section
variable {X:Cx}{a b e:Expr}{pos:Pos}
theorem wU {K:Frag}{H:Hp}{vs:List V}{ds:List D}{i:Int}{d:D}(h:IsL K H vs ds)(e:qp ds i=some d):∃v,qp vs i=some v/\Is K H v d:=by
 unfold qp at e ⊢;rw[h.length];cases q:zW ds.length i with
 |none=>rw[q]at e;cases e
 |some j=>rw[q]at e;exact h.get e
@[simp] def eE:D->D->OB
 |.lst ds,.int i=>(qp ds i).map λd=>(d,false)
 |.tup ds,.int i=>(qp ds i).map λd=>(d,false)
 |.str z,.int i=>if z.length<=sizeLine then (qp z.cps.toList i).map λc=>(.str ⟨#[c]⟩,false)else none
 |_,_=>none
theorem Nl:zX X (rD X.K eE):=by
 intro value slice ac s σ H x y v u Q I rx ry q hs;obtain⟨B,dx,dy,d,b,sB,ix,iy,e,q⟩:=q;cases ix<;>try (cases e;done)
 all_goals (cases iy<;>try (cases e;done))
 ·simp only[eE]at e;split at e
  ·rename_i hz;obtain⟨c,e1,e2⟩:=oY e;cases e2
   exact m8 value slice ac s σ H _ _ v u Q I rx ry ⟨_,_,c,rfl,rfl,hz,e1,q.one sB (.str _)⟩ hs
  ·cases e
 ·rename_i h hl i;simp only[eE]at e;obtain⟨c,e1,e2⟩:=oY e;cases e2
  obtain⟨w,h1,h2⟩:=wU hl e1;exact zZ value slice ac s σ H _ _ v u Q I rx ry ⟨_,_,_,w,rfl,rfl,aZ sB h,h1,q.one sB h2⟩ hs
 ·rename_i h hl i;simp only[eE]at e;obtain⟨c,e1,e2⟩:=oY e;cases e2
  obtain⟨w,h1,h2⟩:=wU hl e1;exact CM value slice ac s σ H _ _ v u Q I rx ry ⟨_,_,_,w,rfl,rfl,sB.seq h,h1,q.one sB h2⟩ hs
theorem eI (ha:JE X a fa)(hb:JE X b fb)(hs:mj b:=by intro _ _;rfl):JE X (.Subscript a b pos) (f2 eE fa fb):=PE.to (zY Nl ha hb hs) λ_ _ _ h=>CS h
abbrev FO:=Env->Option (Option Int)
def Q8 (K:Frag)(f:FO):TO:=λσ H Q=>∃(B:Hp)(ρ:Env)(o:Option Int),aQ B H/\eA K B σ ρ/\f ρ=some o/\∀H',aQ H H'->Q o H'
abbrev JO (X:Cx)(e:Option Expr)(f:FO):Prop:=PO X e (Q8 X.K f)
@[simp] noncomputable def dA:FO:=λ_=>some none
@[simp] noncomputable def cE (f:FE):FO:=λρ=>match f ρ with|some (.int i,_)=>some (some i)|_=>none
theorem cU:JO X none dA:=λac s σ H Q I h=>CH ac s σ H Q I (by
 obtain⟨B,ρ,o,sB,r,e,q⟩:=h;cases e
 exact q H (.refl H))
theorem c6 (h:JE X e f):JO X (some e) (cE f):=λac s σ H Q I q=>CJ h ac s σ H Q I (by
 obtain⟨B,ρ,o,sB,r,e,q⟩:=q;unfold cE at e;split at e
 ·rename_i i b' ef;cases e
  refine⟨B,ρ,_,_,sB,r,ef,λv H1 N1 x1 i1 _=>?_⟩;cases i1
  exact⟨i,rfl,q H1 x1.hh⟩
 ·cases e)
def iP (ds:List D)(lo hi:Option Int):List D:=(ds.drop (HT.cW ds.length 0 lo)).take (HT.cW ds.length ds.length hi - HT.cW ds.length 0 lo)
theorem qC {K:Frag}{H:Hp}{vs:List V}{ds:List D}{lo hi:Option Int}(h:IsL K H vs ds):IsL K H (oy vs lo hi) (iP ds lo hi):=by
 unfold oy iP;rw[h.length];exact(h.drop _).take _
theorem bN.to (h:bN X f r)(k:∀xs H Q,r' xs H Q->r xs H Q):bN X f r':=λac s σ H xs us Q I rs q=>h ac s σ H xs us Q I rs (k xs H Q q)
variable {es:List Expr}{x:Str}{p:Pos}{id T:String}
theorem aB (hc:bN X (.builtin id) (zG X.K f))(hm:X.mg x=none)(hv:bootBuiltins x=some (.builtin id))(ha:JA X (e::es) fa)(hg:Gl X x:=by rfl)(hn:x ≠ "__name__":=by decide)(jW:(x == ("__debug__" : Str))=false:=by decide)
  (he:starEach (e::es) X.env=(false,eval e X.env)::starEach es X.env:=by rfl) (hpl:(backTo pos (starEach es X.env)).any (·.1)=false:=by rfl):JE X (.Call (.Name x p) (e::es) [] pos) (fA f fa):=PE.to (ke hc hg hm hv ha hn jW he hpl) λ_ _ _ h=>CU h
theorem bD (hc:bN X (.type T) (zG X.K f))(hm:X.mg x=none)(hv:bootBuiltins x=some (.type T))(ha:JA X (e::es) fa)(hg:Gl X x:=by rfl)(hn:x ≠ "__name__":=by decide)(jW:(x == ("__debug__" : Str))=false:=by decide)
  (he:starEach (e::es) X.env=(false,eval e X.env)::starEach es X.env:=by rfl) (hpl:(backTo pos (starEach es X.env)).any (·.1)=false:=by rfl):JE X (.Call (.Name x p) (e::es) [] pos) (fA f fa):=PE.to (lh hc hg hm hv ha hn jW he hpl) λ_ _ _ h=>CU h
@[simp] noncomputable def bS:List D->OB
 |[.lst ds]=>some (.int ds.length,false)
 |[.tup ds]=>some (.int ds.length,false)
 |[.str z]=>if z.length<=sizeLine then some (.int z.length,false)else none
 |_=>none
theorem cz:bN X (.builtin "len") (zG X.K bS):=by
 refine bN.to (bN.or qv qw) λxs H Q q=>?_;obtain⟨B,ds,d,b,sB,i,e,q⟩:=q;cases i with
 |nil=>simp[bS]at e
 |cons i1 i2=>
  cases i2 with
  |cons _ _=>cases i1<;>simp[bS]at e
  |nil=>
   cases i1<;>try (simp[bS]at e;done)
   ·simp only[bS]at e;split at e
    ·rename_i hz;cases e
     exact .inr ⟨_,rfl,hz,q.one sB (.int _)⟩
    ·cases e
   ·rename_i h hl;simp only[bS]at e;cases e
    refine .inl ⟨_,_,rfl,.inr (aZ sB h),?_⟩;rw[hl.length];exact q.one sB (.int _)
   ·rename_i h hl;simp only[bS]at e;cases e
    refine .inl ⟨_,_,rfl,.inl (sB.seq h),?_⟩;rw[hl.length];exact q.one sB (.int _)
theorem dM (hm:X.mg x=none)(hv:bootBuiltins x=some (.type n))(hg:Gl X x:=by rfl)(hn:x ≠ "__name__":=by decide)(hd:(x == ("__debug__" : Str))=false:=by decide):JE X (.Name x pos) (fC (.ty n)) :=
 PE.to (wx hg hm hv (v:=.ty n) rfl hn hd) λ_ _ _ h=>yx (λ_=>.ty n) h
end
theorem Dk (hr:cC k A):A.units+40<cLine:=by have:=hr.un;omega
section
variable {X:Cx}{a b e:Expr}{pos:Pos}{x:Str}{p:Pos}
theorem bG (h:∃u v,X.mg x=some u/\aL v u/\∀B,Is X.K B v d)(hg:Gl X x:=by rfl)(hd:(x == ("__debug__" : Str))=false:=by decide):JE X (.Name x pos) (fC d):=by
 obtain⟨u,v,hm,r,i⟩:=h;exact Df hg hm r i hd
@[simp] noncomputable def wV:D->D->OB
 |.int i,.int j=>some (.int (i+j),false)
 |.str i,.str j=>if i.length+j.length<=sizeLine then some (.str (i++j),false)else none
 |_,_=>none
theorem Dl:cA X (binaryOp .Add) (rD X.K wV):=by
 refine iM (r:=rD X.K (Cq GN Di)) (mI Kc GQ) λx y H Q q=>?_;obtain⟨B,dx,dy,d,b,sB,ix,iy,e,q⟩:=q;refine⟨B,dx,dy,d,b,sB,ix,iy,?_,q⟩;cases dx<;>try (cases e;done)
 all_goals (cases dy<;>try (cases e;done))
 all_goals (simp[wV]at e;simp[Cq,GN,Di,o6,IQ,e])
@[simp] def jy:D->D->OB:=JY
theorem jI:cA X (binaryOp .Mult) (rD X.K jy):=Kd
@[simp] def Fb:D->D->OB:=Pl
theorem rV:cA X (compareOp .Lt) (rD X.K Fb):=Nh
@[simp] noncomputable def jJ:D->D->OB
 |.int i,.int j=>some (.bl (decide (i<=j)),false)
 |.str i,.str j=>some (.bl (!decide (j.cps.toList<i.cps.toList)),false)
 |_,_=>none
theorem fW:cA X (compareOp .LtE) (rD X.K jJ):=by
 refine iM (r:=rD X.K (Cq Ng Mm)) (mI Ni Kh) λx y H Q q=>?_;obtain⟨B,dx,dy,d,b,sB,ix,iy,e,q⟩:=q;refine⟨B,dx,dy,d,b,sB,ix,iy,?_,q⟩;cases dx<;>try (cases e;done)
 all_goals (cases dy<;>try (cases e;done))
 all_goals (simp[jJ]at e;simp[Cq,Ng,Mm,o6,IQ,e])
@[simp] noncomputable def Dm:D->OB
 |.int i=>some (.int (-i),false)
 |_=>none
theorem Fc:Jy X (unaryOp .USub) (Nd X.K Dm):=by
 intro ac s σ H x v Q I rx q;obtain⟨B,dx,d,b,sB,ix,e,q⟩:=q;cases ix<;>try (simp[Dm]at e;done)
 simp only[Dm]at e;cases e
 exact G5 ac s σ H _ v Q I rx ⟨_,rfl,q.one sB (.int _)⟩
@[simp] noncomputable def lj:D->D->Option Bool
 |.non,.non=>some true
 |_,.non=>some false
 |.bl a,.bl b=>some (a == b)
 |_,.bl _=>some false
 |_,_=>none
@[simp] def Cs:D->D->OB:=λx y=>(lj x y).map λb=>(.bl b,false)
@[simp] def qD:D->D->OB:=λx y=>(lj x y).map λb=>(.bl (!b),false)
theorem wW {K:Frag}{B:Hp}{x y:V}{v u:Value}{dx dy:D}{k:Bool}(ix:Is K B x dx)(iy:Is K B y dy)(rx:aL x v)(ry:aL y u)(e:lj dx dy=some k):plainIs v u=true/\(v == u)=k:=by
 cases iy<;>(first|(cases dx<;>simp[lj]at e;done)|skip)
 all_goals (cases ix)
 all_goals (first|(obtain⟨t,rfl⟩:=rx)|cases rx)
 all_goals (cases ry)
 all_goals (simp only[lj,Option.some.injEq]at e;subst e)
 all_goals (first|exact⟨rfl,rfl⟩|skip)
 all_goals (rename_i c d;cases c<;>cases d<;>exact⟨rfl,rfl⟩)
theorem yy:cA X (compareOp .Is) (rD X.K Cs):=by
 intro ac s σ H x y v u Q I rx ry q;obtain⟨B,dx,dy,d,b,sB,ix,iy,e,q⟩:=q;obtain⟨k,ek,e⟩:=oY e;cases e
 obtain⟨h1,h2⟩:=wW ix iy rx ry ek;refine wpAny_is_plain h1 ⟨.bl k,H,I,by rw[h2];rfl,q.one sB (.bl _)⟩
theorem Dp:cA X (compareOp .IsNot) (rD X.K qD):=by
 intro ac s σ H x y v u Q I rx ry q;obtain⟨B,dx,dy,d,b,sB,ix,iy,e,q⟩:=q;obtain⟨k,ek,e⟩:=oY e;cases e
 obtain⟨h1,h2⟩:=wW ix iy rx ry ek;refine wpAny_isNot_plain h1 ⟨.bl (!k),H,I,by rw[h2];rfl,q.one sB (.bl _)⟩
@[simp] noncomputable def fX:D->Bool
 |.non=>true|.bl _=>true|.int _=>true|.str _=>true
 |_=>false
noncomputable def Fd (x:D)(ds:List D):Bool:=ds.any λy=>du y x
@[simp] noncomputable def j4:D->Option (List D)
 |.lst ds=>some ds
 |.tup ds=>some ds
 |_=>none
@[simp] def ub:D->D->OB:=λx y=>(j4 y).bind λds=>if fX x=true/\ds.all fX=true then some (.bl (Fd x ds),false)else none
theorem u0 {K:Frag}{B:Hp}{v:V}{d:D}(i:Is K B v d)(h:fX d=true):jz v=true:=by
 cases i<;>first|rfl|(simp[fX]at h)
theorem Nm {K:Frag}{B:Hp}{v w:V}{d e:D}(i:Is K B v d)(j:Is K B w e)(h:fX d=true)(h':fX e=true):Co v w=du d e:=by
 cases i<;>(first|(simp[fX]at h;done)|skip)
 all_goals (cases j<;>(first|(simp[fX]at h';done)|skip))
 all_goals (simp only[Co,du,Bool.beq_eq_decide_eq])
theorem An {K:Frag}{B:Hp}:∀ {vs:List V}{ds:List D},IsL K B vs ds->ds.all fX=true->vs.all jz=true
 |_,_,.nil,_=>rfl
 |_,_,.cons i t,h=>by
  rw[List.all_cons,vD]at h;rw[List.all_cons,u0 i h.1,An t h.2];rfl
theorem GS {K:Frag}{B:Hp}{v:V}{d:D}(j:Is K B v d)(hd:fX d=true):∀ {vs:List V}{ds:List D},IsL K B vs ds->ds.all fX=true->Mk v vs=Fd d ds
 |_,_,.nil,_=>rfl
 |_,_,.cons i t,h=>by
  rw[List.all_cons,vD]at h;have e:=GS j hd t h.2;unfold Mk Fd at *;rw[List.any_cons,List.any_cons,e,Nm i j h.1 hd]
theorem rW:cA X (compareOp .In) (rD X.K ub):=by
 refine iM yp λx y H Q q=>?_;obtain⟨B,dx,dy,d,b,sB,ix,iy,e,q⟩:=q;obtain⟨ds,es,e⟩:=oX e;split at e
 ·rename_i hf;cases e
  cases iy<;>simp only[j4]at es<;>try (cases es;done)
  ·rename_i h hl;cases es
   exact⟨_,_,rfl,.inr (aZ sB h),u0 ix hf.1,An hl hf.2,by rw[if_neg (by decide),GS ix hf.1 hl hf.2];exact q.one sB (.bl _)⟩
  ·rename_i h hl;cases es
   exact⟨_,_,rfl,.inl (sB.seq h),u0 ix hf.1,An hl hf.2,by rw[if_neg (by decide),GS ix hf.1 hl hf.2];exact q.one sB (.bl _)⟩
 ·cases e
theorem cn:bootBuiltins "len" = some (.builtin "len"):=PySem.boot_len
theorem aM:bootBuiltins "isinstance" = some (.builtin "isinstance"):=by decide +kernel
theorem pc:bootBuiltins "all" = some (.builtin "all"):=by decide +kernel
theorem rX:bootBuiltins "int" = some (.type "int"):=by decide +kernel
theorem Ao:bootBuiltins "bool" = some (.type "bool"):=by decide +kernel
theorem iQ:bootBuiltins "str" = some (.type "str"):=by decide +kernel
theorem mK:bootBuiltins "list" = some (.type "list"):=by decide +kernel
theorem cV:bootBuiltins "tuple" = some (.type "tuple"):=by decide +kernel
@[simp] noncomputable def Q9:List D->OB
 |[.int i,.int j]=>some (.int (if j > i then j else i),false)
 |_=>none
@[simp] noncomputable def fY:D->String
 |.non=>"NoneType" | .bl _=>"bool" | .int _=>"int" | .str _=>"str" | .ty _=>"type" | .tup _=>"tuple" | .lst _=>"list" | .dk _ _=>"dict" | .dt _ _=>"dict"
@[simp] noncomputable def u6:D->Bool
 |.ty _=>true
 |_=>false
@[simp] noncomputable def wZ (t n:String):OB :=
 if n = "int" then some (.bl (t == "int" || t == "bool"),false)else if n = "bool" then some (.bl (t == "bool"),false)else if n = "str" then some (.bl (t == "str"),false)
 else if n = "list" then some (.bl (t == "list"),false)else if n = "tuple" then some (.bl (t == "tuple"),false)else none
@[simp] def aK:List D->OB
 |[d,.ty n]=>if u6 d=true then none else wZ (fY d) n
 |_=>none
theorem Dq {ac:List (Addr×Obj)}{σ:St}{H:Hp}{s:Shared}{A:Around}{E:Value->Shared->Prop}{Q:Value->Shared->Prop}{c:Value}{b:Bool}{v:V}{d:D}{u:Value}(I:Inv X ac σ H s)(i:Is X.K H v d)(hd:∀n,d≠.ty n)(rx:aL v u)(e:PySem.W.kitOne X.K (.type (fY d)) c=some b)(h:∀tk,Q (.bool b) { s with toks:=tk }):
  wpAny (model X.prog X.w) A (call (.builtin "isinstance") [u,c]) Q E s:=by
 cases i with
 |non=>exact fJ I rx .non e h
 |bl y=>exact fJ I rx (.bl y) e h
 |int y=>exact fJ I rx (.int y) e h
 |str y=>exact fJ I rx (.str y) e h
 |ty n=>exact absurd rfl (hd n)
 |dk h1 _ _=>exact fJ I rx (.dK h1) e h
 |dt h1 _ _=>exact fJ I rx (.dT h1) e h
 |tup ht _=>
  cases rx
  obtain⟨its,_,⟨o,h1,h2,_⟩,_⟩:=I.tuple ht;exact kia_one PySem.W.kitx_tuple I.kIn ⟨o,h1,h2⟩ e (λz=>nomatch z) h
 |lst hl _=>
  cases rx
  obtain⟨its,_,⟨o,n,h1,h2,_⟩,_⟩:=I.list hl;exact kia_one PySem.W.kitx_list I.kIn ⟨o,h1,h2⟩ e (λz=>nomatch z) h
theorem Ap (K:Frag)(d:D)(hd:∀n,d≠.ty n):
  PySem.W.kitOne K (.type (fY d)) (.type "int")=some (fY d == "int" || fY d == "bool")/\PySem.W.kitOne K (.type (fY d)) (.type "bool")=some (fY d == "bool")/\PySem.W.kitOne K (.type (fY d)) (.type "str")=some (fY d == "str") /\
   PySem.W.kitOne K (.type (fY d)) (.type "list")=some (fY d == "list")/\PySem.W.kitOne K (.type (fY d)) (.type "tuple")=some (fY d == "tuple"):=by
 cases d<;>(first|exact absurd rfl (hd _)|skip)
 all_goals (simp only[fY];refine⟨?_,?_,?_,?_,?_⟩<;>kernel_rfl)
theorem aT:bN X (.builtin "isinstance") (zG X.K aK):=by
 intro ac s σ H xs us Q I rs q;obtain⟨B,ds,d,b,sB,i,e,q⟩:=q;cases i with
 |nil=>cases e
 |cons i1 i=>cases i with
 |nil=>cases e
 |cons i2 i=>
  cases i2<;>try (cases e;done)
  cases i<;>try (cases e;done)
  rename_i dx n;obtain⟨u1,u2,rfl,r1,r2⟩:=EN rs;cases r2
  simp only[aK]at e;split at e
  ·cases e
  ·rename_i ht;have hd:∀n,dx≠.ty n:=λn z=>by subst z;exact ht rfl
   obtain⟨k1,k2,k3,k4,k5⟩:=Ap X.K dx hd;have gY:∀ {k:Bool},PySem.W.kitOne X.K (.type (fY dx)) (.type n)=some k->Fin X.K B H (.bl k) false Q->wq X (call (.builtin "isinstance") [u1,.type n]) (EP X ac σ Q) X.xe s:=λ{k} hk q=>
    Dq I (i1.mono sB) hd r1 hk λtk=>⟨.bl k,H,I.tok tk,rfl,q.one sB (.bl k)⟩
   unfold wZ at e;split at e
   ·rename_i z;subst z;cases e;exact gY k1 q
   split at e
   ·rename_i z;subst z;cases e;exact gY k2 q
   split at e
   ·rename_i z;subst z;cases e;exact gY k3 q
   split at e
   ·rename_i z;subst z;cases e;exact gY k4 q
   split at e
   ·rename_i z;subst z;cases e;exact gY k5 q
   ·cases e
@[simp] noncomputable def xa:D->OB
 |.int i=>some (.int (Builtin.Int.intBits i),false)
 |_=>none
@[simp] def Aq (f:FE):FA:=λρ=>(f ρ).bind λx=>j4 x.1
theorem xc (h:JE X e f):JI X tg e (Aq f):=by
 intro ac s σ H R I q;obtain⟨B,ρ,ds,sB,r,e',q⟩:=q;obtain⟨x,ex,es⟩:=oX e';obtain⟨xd,xb⟩:=x;cases xd<;>simp only[j4]at es<;>try (cases es;done)
 ·cases es
  refine Gs h ac s σ H R I ⟨B,ρ,_,_,sB,r,ex,λv H1 N1 x1 i1 _=>?_⟩;cases i1 with
  |@tup a vs _ ht hl=>
   refine⟨a,rfl,⟨vs,aZ x1.nh ht⟩,q _ H1 N1 x1 λi H2 s2=>⟨λd ed=>?_,λbC=>⟨vs,aZ s2 ht,by rw[hl.length];exact bC⟩⟩⟩;obtain⟨v,ev,iv⟩:=hl.get ed;refine⟨⟨vs,v,aZ s2 ht,ev⟩,λy H3 hy=>?_⟩;obtain⟨rfl,hy⟩:=hy;have:=hy vs (aZ s2 ht);rw[ev]at this;cases this;exact⟨N1,.refl s2,iv⟩
 ·cases es
  refine C6 h ac s σ H R I ⟨B,ρ,_,_,sB,r,ex,λv H1 N1 x1 i1 _=>?_⟩;cases i1 with
  |@lst a vs _ ht hl=>
   refine⟨a,rfl,⟨vs,x1.nh.seq ht⟩,q _ H1 N1 x1 λi H2 s2=>⟨λd ed=>?_,λbC=>⟨vs,s2.seq ht,by rw[hl.length];exact bC⟩⟩⟩;obtain⟨v,ev,iv⟩:=hl.get ed;refine⟨⟨vs,v,s2.seq ht,ev⟩,λy H3 hy=>?_⟩;obtain⟨rfl,hy⟩:=hy;have:=hy vs (s2.seq ht);rw[ev]at this;cases this;exact⟨N1,.refl s2,iv⟩
noncomputable def cP (lo:Int)(n:Nat):List D:=(List.range n).map λ(k:Nat)=>.int (lo+(k:Int))
theorem Ar {K:Frag}{B:Hp}(lo:Int)(n:Nat):lS K (Mj lo n) B (cP lo n):=by
 intro i H s;unfold cP;refine⟨λd ed=>?_,λhl=>by rw[vI,List.length_range]at hl;exact hl⟩;rw[vB]at ed;obtain⟨k,ek,ed⟩:=oY ed;have hk:=vV ek;obtain⟨gs,hk⟩:=hk;rw[List.length_range]at gs;rw[List.getElem_range]at hk;subst hk;subst ed;refine⟨gs,λx H' hy=>?_⟩;obtain⟨rfl,rfl⟩:=hy;exact⟨B,.refl s,.int _⟩
@[simp] def da (f:FE):FA:=λρ=>match f ρ with
 |some (.int j,_)=>if -1000<=j/\j<=1000 then some (cP 0 j.toNat)else none
 |_=>none
theorem iR (hm:X.mg "range" = none)(h:JE X a f)(hg:Gl X "range":=by rfl)(hs:starEach [a] X.env=[(false,eval a X.env)]:=by rfl):PI X tg (.Call (.Name "range" p) [a] [] pos) (IN X.K (da f)):=by
 refine PI.to (yj hg hm (ae h aj hs) hs) λσ H R q=>?_;obtain⟨B,ρ,ds,sB,r,e',q⟩:=q;unfold da at e';split at e'
 ·rename_i j b' ef;split at e'
  ·rename_i hj;cases e'
   refine⟨B,ρ,[.int j],sB,r,by simp[ag,al,ef],λvs H1 N1 x1 i1=>?_⟩;cases i1 with
   |cons i1 i2=>
    cases i1;cases i2
    exact⟨j,rfl,by omega,by omega,q _ H1 N1 x1 λ_=>Ar 0 j.toNat⟩
  ·cases e'
 ·cases e'
theorem mL (hm:X.mg "range" = none)(h:JE X a f)(hg:Gl X "range":=by rfl)(hs:starEach [a] X.env=[(false,eval a X.env)]:=by rfl):JI X tg (.Call (.Name "range" p) [a] [] pos) (da f) :=
 PI.to (iR hm h hg hs) λσ H R ⟨B,ρ,ds,sB,r,e',q⟩=>⟨B,ρ,ds,sB,r,e',λJ H' N x h=>q J H' N x (h _)⟩
end
section
variable {X:Cx}{a b e:Expr}{pos:Pos}{x:Str}{p:Pos}
theorem Dr:zF X "int.bit_length" (λx xs H Q=>∃i,x=.int i/\xs=[]/\Q (.int (Builtin.Int.intBits i)) H):=by
 intro ac s σ H x xs v us Q I rx rs h;obtain⟨i,rfl,rfl,q⟩:=h;obtain⟨t,rfl⟩:=rx;cases rs
 exact call_int_bit_length ⟨.int _,H,I.tok _,⟨_,rfl⟩,q⟩
theorem Ds (ho:JE X a f)(gl:attributeBase a "bit_length" X.env (eval a X.env)=eval a X.env:=by rfl)(gm:(eW.endLine == bU.line)=true:=by rfl):JE X (.Call (.Attribute a "bit_length" eW) [] [] bU) (f1 xa f):=by
 refine PE.to (GB (T:="int") PySem.F.plainAttrs_int PySem.F.slot_int_bit_length PySem.F.type_int_bit_length Dr ho gl gm) λσ H Q q=>?_;obtain⟨B,ρ,d,b,sB,r,e',q⟩:=q;obtain⟨x,ex,e'⟩:=oX e';refine⟨B,ρ,x.1,x.2,sB,r,ex,λv H1 N1 x1 i1 _=>?_⟩;obtain⟨xd,xb⟩:=x;cases i1<;>try (simp[xa]at e';done)
 simp only[xa]at e';cases e'
 exact⟨rfl,_,rfl,rfl,(q.into x1).one x1.nh (.int _)⟩
end
def dN (K:Frag)(x:Str)(st:Stmt):Prop:=∃(f:Addr)(fd:FuncData),Cy K x x st f fd/\PySem.W.nsIn K mainGlobals x=some (some (.ref f))
theorem def_mk {K:Frag}{x:Str}{st:Stmt}{f:Addr}{oc:Value}{od an:Option Addr}{kW:Array (Option Value)}{kV doc pm cf ct:Value}(a:PySem.W.nsIn K mainGlobals x=some (some (.ref f)))
  (l:K.lookup f=some ⟨oc,od,.func (fnOf x x (cS st) (bp st) (ax st) .none kV doc pm an cf ct),kW⟩) (c:PySem.W.codeIn K cf x=true) (k:PySem.W.keepIn K (.ref f)=true):dN K x st:=⟨f,_,Ad l c k,a⟩
section
variable {P:Program}{w:World}{K:Frag}{mg:Str->Option Value}{base:Heap}
theorem dN.fn {x:Str}{st:Stmt}{N ps:List Str}{k:Nat}{g:FS}{h:Heap}(F:dN K x st)(X:K.In h)(G:h.Ns mainGlobals mg)(S:FnScope N ps (ax st))
  (wn:∀(kV doc pm:Value)(an:Option Addr)(cf ct:Value)(us:List Value),us.length=ps.length->bindArgs (fnOf x x (cS st) (bp st) (ax st) .none kV doc pm an cf ct) ⟨us,[]⟩=pure (ps.zip us))
  (hb:∀(f:Addr)(cf:Value)(A:Around)(outer:List PySem.Env)(s:Shared)(H:Hp)(E:XK),cC k (A.deeper (envOfC x (ax st) s.heap.objs.size f cf))->rg (dG ml P w K mg base N x (ax st) f cf A outer s H E).nox (bp st) g):
  Fn P w K mg base (k+1) x (aR g ps.length (N.length - ps.length)):=by
 obtain⟨f,fd,F1,a⟩:=F;exact⟨f,fd,ps,Ki F1 S (hb f),mg_of X G a,F1.kp,F1.binds wn⟩
end
def Kj (H:Hp):Prop:=∀b,H b=none∨(∃o xs,H b=some (.frz o (.lst xs)))∨∃q,H b=some (.tbl q)
noncomputable def mM (iH:List (Addr×Str))(G:Hp):Hp:=λb=>match iH.lookup b with|some q=>some (.tbl q)|none=>G b
theorem eT (e:iH.lookup b=some q):mM iH G b=some (.tbl q):=by unfold mM;rw[e]
theorem gM (e:iH.lookup b=none):mM iH G b=G b:=by unfold mM;rw[e]
theorem yz {P:Program}{w:World}{K:Frag}{mg mb:Str->Option Value}{k:Nat}{fa a:Addr}{fd:FuncData}{x:Str}{sp:Sp}{s₁:Shared}{vs:List Value}{ns:List Int}(iH:List (Addr×Str))
  (ht:∀b q,iH.lookup b=some q->s₁.heap.get? b=some (PySem.W.tabObj #[])/\isCodeTable s₁.heap b) (Rz:PySem.W.noTabs K=true)
  (KX:K.In s₁.heap) (Ol:s₁.heap.Ns mainGlobals mg) (hb:s₁.heap.Ns builtinsNs mb) (R0:∀x:Str,x ≠ "__name__"->mb x=bootBuiltins x) (Om:s₁.heap.NoLimit)
  (Oo:∃bm ob,mg "__builtins__" = some (.ref bm)/\bm≠builtinsNs/\s₁.heap.get? bm=some ob/\ob.cls=.type "module"/\ob.dict=some builtinsNs/\ob.data=.plain) (hg:s₁.gens=#[])
  (ha:s₁.heap.get? a=some { cls:=.type "list",data:=.seq vs.toArray }) (hi:IntsAre vs ns) (hl:ns.length<=sizeLine) (hr:cC k callerA)
  (F:∀base:Heap,K.In base->base.Ns mainGlobals mg->fH P w K mg base ml k fa fd [x] sp) (LC:∀(s:Shared)(u:Value),BindsTo s fd ⟨[u],[]⟩ [(x,u)])
  (FD:∀H:Hp,(∀b q,iH.lookup b=some q->H b=some (.tbl q))->fO K H a (ns.map V.int)->sp [.ref a] H (λv _=>v=.bl true) λ_ _ _=>False):
  codeAny (model P w) callerA (.call (.ref fa) ⟨[.ref a],[]⟩) (λr s'=>r=.ok (.ret (.bool true))/\OldK s₁.heap s'.heap/\s'.os=s₁.os/\AllBare s'.gens) s₁:=by
 have rv:=L2.oV hi;have Op:=hi.length;have LD:∀H:Hp,Kj H->(∀b q,iH.lookup b=some q->H b=some (.tbl q))->fO K H a (ns.map V.int)->lC P w H s₁.heap->(∀b q,H b=some (.tbl q)->s₁.heap.get? b=some (PySem.W.tabObj #[])/\isCodeTable s₁.heap b) ->
   (∀b o u,H b=some (.frz o u)->b=a)->(∀b o u,H b=some (.frz o u)->K.lookup b=none) ->
   codeAny (model P w) callerA (.call (.ref fa) ⟨[.ref a],[]⟩) (λr s'=>r=.ok (.ret (.bool true))/\OldK s₁.heap s'.heap/\s'.os=s₁.os/\AllBare s'.gens) s₁:=by
  intro H hO hT hS hok hA hB hK;have Lp:∀ {b:Addr}{o:Obj},s₁.heap.get? b=some o->(o.cls≠.none)->(o.cls≠.type "list")->H b=none:=λ{b o} e d d'=>by
   rcases hO b with q|⟨ob,xs,q⟩|⟨u,q⟩
   ·exact q
   ·have e':b=a:=hB b _ _ q;subst e';rw[ha]at e;cases e;exact absurd rfl d'
   ·rw[(hA b u q).1]at e;cases e;exact absurd rfl d
  have R1:∀ {b:Addr}{o:Obj}{es:Array DictEntry}{ep:Nat},s₁.heap.get? b=some o->o.data=.dict es ep->H b=none:=λ{b o es ep} e d=>by
   rcases hO b with q|⟨ob,xs,q⟩|⟨u,q⟩
   ·exact q
   ·have e':b=a:=hB b _ _ q;subst e';rw[ha]at e;cases e;cases d
   ·rw[(hA b u q).1]at e;cases e;cases d
  have M4:∀ {b:Addr}{m:Str->Option Value},s₁.heap.Ns b m->(rm s₁.heap H).Ns b m:=λ{b m} ⟨o,es,ep,e,d,r⟩=>⟨o,es,ep,m3 e (R1 e d),d,r⟩;have PR:K.In (rm s₁.heap H):=λb o e=>m3 (KX b o e) (by
   rcases hO b with q|⟨ob,xs,q⟩|⟨u,q⟩
   ·exact q
   ·rw[hK b _ _ q]at e;cases e
   ·have z:=(hA b u q).1;rw[KX b o e]at z;cases z
    have:=uR Rz _ (PySem.W.mem_of_lookupK e);simp at this)
  have hM:Mod K mg (rm s₁.heap H):=⟨PR,M4 Ol,⟨mb,M4 hb,R0⟩,let ⟨mc,h1,h2⟩:=Om;⟨mc,M4 h1,h2⟩,by
   obtain⟨bm,ob,b1,b2,b3,b4,b5⟩:=Oo;exact⟨bm,ob,b1,b2,m3 b3 (Lp b3 (by rw[b4];exact λz=>nomatch z) (by rw[b4];intro z;injection z with z;exact absurd z (by decide))),b4,b5⟩⟩
  have e0:Env0 P w K mg (rm s₁.heap H) callerA [] s₁ H:=⟨rfl,hM,λb o e=>C1 e,Nat.le_of_eq (yh _ _),trivial,λb hb=>absurd (show b∈([]:List Addr)from hb) (by simp),hok,.of_eq hg⟩;refine codeAny_mono ((F _ PR (M4 Ol)).run callerA [] s₁ H ⟨[.ref a],[]⟩ [.ref a] [.ref a] _ _ hr e0 (LC s₁ (.ref a)) (.cons rfl .nil) (FD H hT hS)) λr s' h=>?_;cases r with
  |error e=>exact False.elim h
  |ok fl=>
   cases fl with
   |next=>exact False.elim h
   |brk=>exact False.elim h
   |cont=>exact False.elim h
   |ret u=>
    obtain⟨v,H',os,bare,un,LF,r',q⟩:=h;have q':v=.bl true:=q;subst q';obtain rfl:u=Value.bool true:=r';have kp:∀b o,H b=none->s₁.heap.get? b=some o->s'.heap.get? b=some o:=λb o n e=>un.keep b o e n (by intro z;exact absurd (show b∈([]:List Addr)from z) (by simp)) (by simp);refine⟨rfl,⟨λb o e=>?_,λb o e=>un.there b o e (by simp)⟩,os,bare⟩;rcases hO b with z|⟨ob,xs,z⟩|⟨u,z⟩
    ·exact .inl (kp b o z e)
    ·have z2:=un.frzs b ob _ z;obtain⟨e1,_⟩:=hok b _ z;obtain⟨e2,_⟩:=LF b _ z2;rw[e]at e1;cases e1;exact .inl e2
    ·obtain⟨e1,e2⟩:=hA b u z;rw[e]at e1;cases e1;obtain⟨ps,e3,_⟩:=LF b _ (un.tbls b u z);exact .inr (.inl ⟨e2,rfl,#[],ps,rfl,by simpa using e3⟩)
 have Iv:∀q,iH.lookup a≠some q:=λq z=>by
  have:=(ht a q z).1;rw[ha]at this;cases this
 have ta:iH.lookup a=none:=by
  cases z:iH.lookup a with
  |none=>rfl
  |some q=>exact absurd z (Iv q)
 have FF:∀(G:Hp) b q,iH.lookup b=some q->bF P w (mM iH G) s₁.heap b (.tbl q):=λG b q z=>⟨#[],(ht b q z).1,trivial,λpos cv c=>by cases c⟩;cases hk:K.lookup a with
 |some o=>
  have e:=KX a o hk;rw[ha]at e;cases e
  refine LD (mM iH λ_=>none) (λb=>?_) (λb q z=>eT z) (.inr ⟨_,vs.toArray,_,hk,rfl,rfl,rfl,by rw[vH,Op];exact hl,by simpa using rv⟩) (λb u z=>?_) (λb q z=>?_) (λb o u z=>?_) λb o u z=>?_
  all_goals cases zt:iH.lookup b with
   |none=>first|exact .inl (gM zt)|(rw[gM zt]at z;cases z)
   |some q'=>first|exact .inr (.inr ⟨q',eT zt⟩)|(rw[eT zt]at z;cases z;done)|(rw[eT zt]at z;cases z;first|exact FF _ b _ zt|exact ht b _ zt)
 |none=>
  refine LD (mM iH λb=>if b=a then some (.frz { cls:=.type "list",data:=.seq vs.toArray } (.lst (ns.map V.int)))else none) (λb=>?_) (λb q z=>eT z) (.inl (.inr ⟨{ cls:=.type "list",data:=.seq vs.toArray },by rw[gM ta,if_pos rfl]⟩)) (λb u z=>?_) (λb q z=>?_) (λb o u z=>?_) λb o u z=>?_
  all_goals cases zt:iH.lookup b with
   |some q'=>first|exact .inr (.inr ⟨q',eT zt⟩)|(rw[eT zt]at z;cases z;done)|(rw[eT zt]at z;cases z;first|exact FF _ b _ zt|exact ht b _ zt)
   |none=>
    first
    |rw[gM zt]at z
    |rw[gM zt]
    by_cases hb:b=a
    ·first
     |rw[if_pos hb]at z
     |rw[if_pos hb]
     first
     |exact .inr (.inl ⟨_,_,rfl⟩)
     | (cases z;subst hb;exact⟨ha,by rw[vI];exact hl,vs,_,rv,ha⟩)
     |exact hb
     | (rw[hb];exact hk)
     |cases z
    ·first
     | (rw[if_neg hb]at z;cases z)
     |exact .inl (if_neg hb)
noncomputable def qE (L:List (Str×Option (Addr×Addr))):List (Addr×Str):=L.filterMap λp=>p.2.map λq=>(q.2,GG p.1)
structure mz (K:Frag)(L:List (Str×Option (Addr×Addr))):Prop where
 names:L=rF.map λx=>(x,PySem.W.tabIn K x)
 apart:((qE L).map (·.1)).Nodup
 none:PySem.W.noTabs K=true
theorem j5 {α β:Type}[BEq α][LawfulBEq α]:∀ {l:List (α×β)}{a:α}{b:β},(l.map (·.1)).Nodup->(a,b)∈l->l.lookup a=some b
 | (c,d)::l,a,b,nd,h=>by
  rw[List.lookup_cons];rcases vP h with e|h
  ·cases e;simp
  ·have ne:a≠c:=λz=>(List.nodup_cons.mp nd).1 (by rw[←z];exact List.mem_map.mpr ⟨(a,b),h,rfl⟩);rw[show(a == c)=false by simpa using ne];exact j5 (List.nodup_cons.mp nd).2 h
theorem iS {α β:Type}[BEq α][LawfulBEq α]:∀ {l:List (α×β)}{a:α}{b:β},l.lookup a=some b->(a,b)∈l
 | (c,d)::l,a,b,h=>by
  rw[List.lookup_cons]at h;cases e:a == c with
  |true=>rw[e]at h;cases h;rw[eq_of_beq e];exact mX
  |false=>rw[e]at h;exact mZ _ (iS h)
theorem mz.tb {K:Frag}{L:List (Str×Option (Addr×Addr))}(F:mz K L){H:Hp}(h:∀b q,(qE L).lookup b=some q->H b=some (.tbl q)):Tb K H:=λx hx c P e=>by
 refine h P (GG x) (j5 F.apart ?_);rw[F.names];exact List.mem_filterMap.mpr ⟨(x,PySem.W.tabIn K x),List.mem_map.mpr ⟨x,hx,rfl⟩,by rw[e];rfl⟩
theorem tab_no {K:Frag}{x:Str}(e:PySem.W.nsIn K mainGlobals x=some none):PySem.W.tabIn K x=none:=by unfold PySem.W.tabIn;rw[e]
theorem tabs_fit {K:Frag}{t0 t1 t2 t3 t4:Option (Addr×Addr)}(h0:PySem.W.tabIn K "in_order" = t0)(h1:PySem.W.tabIn K "has_seal" = t1)(h2:PySem.W.tabIn K "is_first_death" = t2)(h3:PySem.W.tabIn K "bases_by" = t3)(h4:PySem.W.tabIn K "as_heard" = t4)
  (ap:((qE [("in_order",t0),("has_seal",t1),("is_first_death",t2),("bases_by",t3),("as_heard",t4)]).map (·.1)).Nodup) (nt:PySem.W.noTabs K=true):mz K [("in_order",t0),("has_seal",t1),("is_first_death",t2),("bases_by",t3),("as_heard",t4)] :=
 ⟨by subst h0;subst h1;subst h2;subst h3;subst h4;rfl,ap,nt⟩
theorem dN.law {P:Program}{w:World}{K:Frag}{mg:Str->Option Value}{x y:Str}{st:Stmt}{N:List Str}{k:Nat}{g:FS}{h:Heap}{fa:Addr}(F:dN K x st)(X:K.In h)(G:h.Ns mainGlobals mg)(Oq:mg x=some (.ref fa))(S:FnScope N [y] (ax st))
  (wn:∀(kV doc pm:Value)(an:Option Addr)(cf ct:Value)(u:Value),bindArgs (fnOf x x (cS st) (bp st) (ax st) .none kV doc pm an cf ct) ⟨[u],[]⟩=pure [(y,u)])
  (hb:∀(base:Heap),K.In base->base.Ns mainGlobals mg->∀(f:Addr)(cf:Value)(A:Around)(outer:List PySem.Env)(s:Shared)(H:Hp)(E:XK),cC k (A.deeper (envOfC x (ax st) s.heap.objs.size f cf))->rg (dG ml P w K mg base N x (ax st) f cf A outer s H E).nox (bp st) g):
  ∃fd:FuncData,(∀(s:Shared)(u:Value),BindsTo s fd ⟨[u],[]⟩ [(y,u)])/\∀base:Heap,K.In base->base.Ns mainGlobals mg->fH P w K mg base ml (k+1) fa fd [y] (Cr K (aR g 1 (N.length - 1))):=by
 obtain⟨f,fd,F1,a⟩:=F;have e:=Oq.symm.trans (mg_of X G a);cases e
 refine⟨fd,λs u=>?_,λbase kb nb=>Ki F1 S (hb base kb nb _)⟩;obtain⟨oc,od,kV,doc,pm,an,cf,ct,kW,rfl,lk,gH⟩:=F1.ex;exact .of_eq (wn kV doc pm an cf ct u)
section
variable {X:Cx}{a b e:Expr}{pos:Pos}{x:Str}{p:Pos}
@[simp] noncomputable def Dt:D->D->OB
 |.lst xs,.lst ys=>if xs.length+ys.length<=sizeLine then some (.lst (xs++ys),true)else none
 |_,_=>none
theorem GU:cA X (binaryOp .Add) (rD X.K Dt):=by
 intro ac s σ H x y v u Q I rx ry q;obtain⟨B,dx,dy,d,bb,sB,ix,iy,ee,q⟩:=q;cases ix<;>try (cases ee;done)
 all_goals (cases iy<;>try (cases ee;done))
 rename_i l vs ds h hl l' ws es h' zH;simp only[Dt]at ee;split at ee
 ·rename_i hz;cases ee
  cases rx
  cases ry
  obtain⟨its,r1,p1,z1⟩:=I.list (sB.seq h);obtain⟨oG,r2,p2,z2⟩:=I.list (sB.seq h');obtain⟨⟨c1,d1,t1,s1⟩,o1,e1,n1,k1⟩:=p1.isList;obtain⟨⟨c2,d2,t2,s2⟩,o2,e2,n2,k2⟩:=p2.isList;dsimp only at e1 k1 e2 k2;subst e1;subst k1;subst e2;subst k2;have hsz:its.toArray.size+oG.toArray.size<=sizeLine:=by
   rw[vH,vH,←r1.length,←r2.length,hl.length,zH.length];exact hz
  have ea:its.toArray++oG.toArray=(its++oG).toArray:=by simp
  refine concat_meets ⟨_,o1,rfl⟩ ⟨_,o2,rfl⟩ noFill_list_add seq_list_add PySem.F.slot_list_add PySem.F.entry_list_add (PySem.F.args_list_add_2 _ _) (list_addW l l' its.toArray oG.toArray n1 n2 d1 d2 s1 s2 hsz) ⟨o1,o2,?_⟩;rw[ea];have xt:=Ext.laid (o:=.lst (vs++ws)) sB I.fresh;have il:=(hl.append zH).mono xt.bn;exact⟨.ref s.heap.objs.size,_,I.lnew (t':=s.toks) (r1.append r2) (by rw[vA,hl.length,zH.length];exact hz),rfl,q _ _ _ xt (.lst (fO.of av) il) λ_=>⟨_,_,_,rfl,rfl,I.fresh,av,il⟩⟩
 ·cases ee
@[simp] noncomputable def Du:D->D->OB
 |.tup xs,.tup ys=>if xs.length+ys.length<=sizeLine/\xs.isEmpty=false then some (.tup (xs++ys),false)else none
 |_,_=>none
theorem GV:cA X (binaryOp .Add) (rD X.K Du):=by
 refine iM CK λx y H Q q=>?_;obtain⟨B,dx,dy,d,bb,sB,ix,iy,ee,q⟩:=q;cases ix<;>try (cases ee;done)
 all_goals (cases iy<;>try (cases ee;done))
 rename_i l vs ds h hl l' ws es h' zH;simp only[Du]at ee;split at ee
 ·rename_i hz;cases ee
  have l1:=hl.length;have l2:=zH.length;refine⟨l,l',vs,ws,rfl,rfl,aZ sB h,aZ sB h',λz=>?_,by omega,λz=>?_,λ_ pp hp=>?_⟩
  ·subst z;cases hl
   simp at hz
  ·subst z;cases zH
   rw[uQ]at q;exact q.one sB (.tup h hl)
  ·have xt:=Ext.laid (o:=.tup (vs++ws)) sB hp;exact q _ _ _ xt (.tup (gA.of av) ((hl.append zH).mono xt.bn)) (by simp)
 ·cases ee
@[simp] noncomputable def As:D->D->OB
 |.bl i,.int j=>some (.int ((if i=true then 1 else 0)+j),false)
 |.int i,.bl j=>some (.int (i+b2i j),false)
 |_,_=>none
theorem GW:cA X (binaryOp .Add) (rD X.K As):=by
 intro ac s σ H x y v u Q I rx ry q;obtain⟨B,dx,dy,d,bb,sB,ix,iy,ee,q⟩:=q;cases ix<;>try (cases ee;done)
 all_goals (cases iy<;>try (cases ee;done))
 ·simp only[As]at ee;cases ee
  cases rx
  obtain⟨t,rfl⟩:=ry;exact IntBool.add_bool_int ⟨.int _,H,I.tok _,⟨_,rfl⟩,q.one sB (.int _)⟩
 ·simp only[As]at ee;cases ee
  exact ym ac s σ H _ _ v u Q I rx ry ⟨_,_,rfl,rfl,q.one sB (.int _)⟩
@[simp] noncomputable def aF:D->D->OB
 |.int i,.int j=>some (.int (i+j),false)
 |.str i,.str j=>if i.length+j.length<=sizeLine then some (.str (i++j),false)else none
 |.lst xs,.lst ys=>if xs.length+ys.length<=sizeLine then some (.lst (xs++ys),true)else none
 |.tup xs,.tup ys=>if xs.length+ys.length<=sizeLine/\xs.isEmpty=false then some (.tup (xs++ys),false)else none
 |.bl i,.int j=>some (.int ((if i=true then 1 else 0)+j),false)
 |.int i,.bl j=>some (.int (i+b2i j),false)
 |_,_=>none
theorem aq:cA X (binaryOp .Add) (rD X.K aF):=by
 refine iM (r:=rD X.K (Cq wV (Cq Dt (Cq Du As)))) (mI Dl (mI GU (mI GV GW))) λx y H Q q=>?_;obtain⟨B,dx,dy,d,bb,sB,ix,iy,ee,q⟩:=q;refine⟨B,dx,dy,d,bb,sB,ix,iy,?_,q⟩;cases dx<;>try (cases ee;done)
 all_goals (cases dy<;>try (cases ee;done))
 all_goals (simp[aF]at ee;simp[Cq,wV,Dt,Du,As,ee])
@[simp] noncomputable def Nn:D->Option Bool
 |.bl b=>some b
 |_=>none
def u7:List D->Option (List Bool)
 |[]=>some []
 |d::ds=>(Nn d).bind λb=>(u7 ds).map (b :: ·)
@[simp] theorem Kk:u7 []=some []:=rfl
@[simp] theorem y0 (d:D)(ds:List D):u7 (d::ds)=(Nn d).bind λb=>(u7 ds).map (b :: ·):=rfl
theorem xf {K:Frag}{B:Hp}:∀ {vs:List V}{ds:List D}{bs:List Bool}{its:List Value},L2.aS vs its->IsL K B vs ds->u7 ds=some bs->its=bs.map Value.bool
 |_,_,_,_,.nil,.nil,e=>by cases e;rfl
 |_,_,_,_,.cons r rr,.cons i ii,e=>by
  rw[y0]at e;obtain⟨b,e1,e⟩:=oX e;obtain⟨bs,e2,e⟩:=oY e;subst e;cases i<;>simp only[Nn]at e1<;>try (cases e1;done)
  cases e1
  cases r
  rw[xf rr ii e2];rfl
@[simp] def ll:List D->OB
 |[.lst ds]=>(u7 ds).map λbs=>(.bl (bs.all id),false)
 |_=>none
theorem pd (hc:X.calm=true:=by rfl):bN X (.builtin "all") (zG X.K ll):=by
 intro ac s σ H xs us Q I rs q;obtain⟨B,ds,d,bb,sB,i,ee,q⟩:=q;cases i with
 |nil=>cases ee
 |cons i1 i=>
  cases i with
  |cons _ _=>cases i1<;>cases ee
  |nil=>
   cases i1<;>try (cases ee;done)
   rename_i l vs es h hl;obtain⟨bs,eb,ee⟩:=oY ee;cases ee
   obtain⟨u1,rfl,r1⟩:=gu rs;cases r1
   obtain⟨its,rv,p1,z1⟩:=I.list (sB.seq h);have ei:=xf rv hl eb;have gs:l<s.heap.objs.size:=by obtain⟨_,e0,_⟩:=p1.isList;exact vX e0
   refine call_all_walk (wpAny_pyIter_list p1.isList ⟨_,_,_,_,_,_,λj=>(bs[j]?).getD true,rfl,Walks.list (A:=X.A.in1) (I.ok.hd hc) s.heap.objs.size l (vS gs) its.toArray,⟨⟨_,vY _ rfl,rfl,rfl⟩,p1.isList.push _⟩,λj v s' Q' E' hP hQ=>?_,λh' tk hk=>?_⟩)
   ·have PU:its[j]? = some v:=by simpa using hP
    rw[ei,vB]at PU;obtain⟨c,e1,e2⟩:=oY PU;subst e2;dsimp only at hQ;rw[e1]at hQ;exact wpAny_truthy_bool hQ
   ·have ea:((List.range its.toArray.size).all λj=>(bs[j]?).getD true)=bs.all id:=by
     rw[vH,ei,vI];exact LSm.range_all bs
    rw[ea];refine⟨.bl _,H,I.kept λc o e0=>?_,rfl,q.one sB (.bl _)⟩;exact hk c o (λhm=>by rw[uU hm]at e0;exact Nat.lt_irrefl _ (vX e0)) (vZ _ e0)
end
noncomputable def Mn (z:Str):It:=⟨λi _=>i<z.cps.size,λi H v H'=>H'=H/\∃c,z.cps[i]? = some c/\v=.str ⟨#[c]⟩,λi _=>z.cps.size<=i⟩
theorem rY {P:Program}{w:World}{K:Frag}{tg:Expr}(z:Str)(t:Tok)(it:Addr):Turn P w K tg (Mn z) [it] it (λi h=>h.IsStrIter it "str_ascii_iterator" z t i) where
 mem:=List.mem_singleton.mpr rfl
 obj:=λi h st b hb=>by
  have eb:=uU hb;subst eb;obtain⟨o,e1,_,d1⟩:=st;exact⟨o,e1,λv zz=>by rw[d1]at zz;cases zz⟩
 keep:=λi h h' st k=>let ⟨o,e1,r⟩:=st;⟨o,k it (List.mem_singleton.mpr rfl) o e1,r⟩
 item:=by
  intro X hP hw hK hc i ac s σ H E I hf st hg;subst hP hw hK;have Cz:i<z.cps.size:=hg;obtain⟨f0,f1,f2,f3,f4,f5⟩:=hf it (List.mem_singleton.mpr rfl);refine wpAny_pyNext_ascii_item st (c:=z.cps[i]) (by simp[Cz]) λh' oj sb=>?_;obtain⟨o,e1,c1,d1⟩:=id oj;exact⟨_,rfl,oJ (s:={ s with heap:=h',toks:=s.toks+1 }) e1 c1 d1 (by decide) ⟨.str ⟨#[z.cps[i]]⟩,H,I.turned (λb o hb e2=>(sb.2 b hb).trans e2) f0 f1 f3 f4 f5,⟨_,rfl⟩,⟨rfl,_,by simp[Cz],rfl⟩,oj,λb hb=>(hf b hb).1⟩⟩
 done:=by
  intro X hP hw hK hc i ac s σ H E I hf st hg;subst hP hw hK;have Cz:z.cps.size<=i:=hg;obtain⟨f0,f1,f2,f3,f4,f5⟩:=hf it (List.mem_singleton.mpr rfl);exact wpAny_pyNext_ascii_end (I.ok.hd hc) st (by simp;omega) λh' eb=>⟨rfl,I.turned (t':=s.toks) (λb o hb e2=>eb b o hb e2) f0 f1 f3 f4 f5⟩
 self:=λ_ _ _ _ _ st h=>wpAny_pyIter_striter_ascii st h
theorem rZ {P:Program}{w:World}{K:Frag}{tg:Expr}(z:Str)(t:Tok)(it:Addr):Turn P w K tg (Mn z) [it] it (λi h=>h.IsStrIter it "str_iterator" z t i) where
 mem:=List.mem_singleton.mpr rfl
 obj:=λi h st b hb=>by
  have eb:=uU hb;subst eb;obtain⟨o,e1,_,d1⟩:=st;exact⟨o,e1,λv zz=>by rw[d1]at zz;cases zz⟩
 keep:=λi h h' st k=>let ⟨o,e1,r⟩:=st;⟨o,k it (List.mem_singleton.mpr rfl) o e1,r⟩
 item:=by
  intro X hP hw hK hc i ac s σ H E I hf st hg;subst hP hw hK;have Cz:i<z.cps.size:=hg;obtain⟨f0,f1,f2,f3,f4,f5⟩:=hf it (List.mem_singleton.mpr rfl);refine wpAny_pyNext_wide_item st (c:=z.cps[i]) (by simp[Cz]) λh' oj sb=>?_;obtain⟨o,e1,c1,d1⟩:=id oj;exact⟨_,rfl,oJ (s:={ s with heap:=h',toks:=s.toks+1 }) e1 c1 d1 (by decide) ⟨.str ⟨#[z.cps[i]]⟩,H,I.turned (λb o hb e2=>(sb.2 b hb).trans e2) f0 f1 f3 f4 f5,⟨_,rfl⟩,⟨rfl,_,by simp[Cz],rfl⟩,oj,λb hb=>(hf b hb).1⟩⟩
 done:=by
  intro X hP hw hK hc i ac s σ H E I hf st hg;subst hP hw hK;have Cz:z.cps.size<=i:=hg;obtain⟨f0,f1,f2,f3,f4,f5⟩:=hf it (List.mem_singleton.mpr rfl);exact wpAny_pyNext_wide_end (I.ok.hd hc) st (by simp;omega) λh' eb=>⟨rfl,I.turned (t':=s.toks) (λb o hb e2=>eb b o hb e2) f0 f1 f3 f4 f5⟩
 self:=λ_ _ _ _ _ st h=>wpAny_pyIter_striter_wide st h
section
variable {X:Cx}{a b e:Expr}{pos:Pos}{x:Str}{p:Pos}{tg:Expr}
theorem Au {l:Expr}{tl:TE}(hl:PE X l tl):PI X tg l (λσ H R=>tl σ H λx H1=>∃z,x=.str z/\R (Mn z) H1):=by
 intro ac s σ H R I h;refine cb (hl ac s σ H _ I h) λv s1 ⟨x,H1,I1,r1,q1⟩=>?_;obtain⟨z,rfl,q⟩:=q1;obtain⟨t,rfl⟩:=r1;have fp:∀b∈[s1.heap.objs.size],kc X ac H1 b:=λb hb=>by
  rw[uU hb];exact I1.fpOk (vT _) (I1.hok.fresh (vT _))
 cases ha:z.cps.all (· < 128) with
 |true=>exact wpAny_pyIter_ascii ha ⟨_,[s1.heap.objs.size],_,_,H1,rfl,I1.kept (t':=s1.toks) λb o e=>vZ _ e,rY z t _,⟨_,vY _ rfl,rfl,rfl⟩,fp,q⟩
 |false=>exact wpAny_pyIter_wide ha ⟨_,[s1.heap.objs.size],_,_,H1,rfl,I1.kept (t':=s1.toks) λb o e=>vZ _ e,rZ z t _,⟨_,vY _ rfl,rfl,rfl⟩,fp,q⟩
noncomputable def kj (z:Str):List D:=z.cps.toList.map λc=>.str ⟨#[c]⟩
theorem Av {K:Frag}{B:Hp}(z:Str):lS K (Mn z) B (kj z):=by
 intro i H s;refine⟨λd ed=>?_,λhl=>by unfold kj at hl;show z.cps.size<=i;simpa using hl⟩;unfold kj at ed;rw[vB]at ed;obtain⟨c,ec,rfl⟩:=oY ed;have LG:z.cps[i]? = some c:=by simpa using ec
 refine⟨(Array.getElem?_eq_some_iff.mp LG).1,λv H' hy=>?_⟩;obtain⟨rfl,c',e1,rfl⟩:=hy;rw[LG]at e1;cases e1;exact⟨B,.refl s,.str _⟩
@[simp] def GX:D->Option (List D)
 |.lst ds=>some ds
 |.tup ds=>some ds
 |.str z=>some (kj z)
 |_=>none
@[simp] def cK (f:FE):FA:=λρ=>(f ρ).bind λx=>GX x.1
theorem cI (h:JE X e f):JI X tg e (cK f):=by
 intro ac s σ H R I q;obtain⟨B,ρ,ds,sB,r,e',q⟩:=q;obtain⟨xx,ex,es⟩:=oX e';obtain⟨xd,xb⟩:=xx;cases xd with
 |lst l=>exact xc h ac s σ H R I ⟨B,ρ,ds,sB,r,by unfold Aq;rw[ex];exact es,q⟩
 |tup l=>exact xc h ac s σ H R I ⟨B,ρ,ds,sB,r,by unfold Aq;rw[ex];exact es,q⟩
 |str z=>
  cases es
  refine Au h ac s σ H R I ⟨B,ρ,_,_,sB,r,ex,λv H1 N1 x1 i1 _=>?_⟩;cases i1
  exact⟨z,rfl,q _ H1 N1 x1 (Av z)⟩
 |_=>cases es
theorem Dv:z9 X (λx lo hi H Q=>∃z,x=.str z/\z.length<=sizeLine/\Q (.str (Txt.slice z lo hi)) H):=by
 intro ac s σ H x v vl vu lo hi sl Q I rx hs pl pu h;obtain⟨z,rfl,hz,q⟩:=h;obtain⟨t,rfl⟩:=rx;have gY:∀lo hi,Q (.str (Txt.slice z lo hi)) H->(Txt.slice z lo hi).length<=sizeLine/\∀t' k,EP X ac σ Q (.str (Txt.slice z lo hi) t') { s with toks:=k }:=λlo hi q=>
  ⟨vR (Txt.slice_le z _ _) hz,λt' k=>⟨.str _,H,I.tok k,⟨t',rfl⟩,q⟩⟩
 refine⟨"str",_,PySem.F.slot_str_getitem.lookup,typeIs_str _ _ _,?_⟩;cases pl with
 |none=>
  cases pu with
  |none=>exact wpAny_getItem_str_slice (l:=none) (u:=none) (st:=none) hs rfl (post_val_or_str (gY _ _ q))
  |int j tj=>exact wpAny_getItem_str_slice (l:=none) (u:=some (j,tj)) (st:=none) hs rfl (post_val_or_str (gY _ _ q))
 |int i ti=>
  cases pu with
  |none=>exact wpAny_getItem_str_slice (l:=some (i,ti)) (u:=none) (st:=none) hs rfl (post_val_or_str (gY _ _ q))
  |int j tj=>exact wpAny_getItem_str_slice (l:=some (i,ti)) (u:=some (j,tj)) (st:=none) hs rfl (post_val_or_str (gY _ _ q))
theorem y2 {A:Around}{E:Value->Shared->Prop}{s:Shared}{prog:Program}{w:World}{t sl:Addr}{aw:Array Value}{vl vu:Value}{lo hi:Option Int}{Q:Value->Shared->Prop}(ht:IsTup s.heap t aw)(hs:s.heap.IsSliceOf sl vl vu .none)(pl:IsPart vl lo)(pu:IsPart vu hi)
  (h0:HT.cW aw.size 0 lo=0) (h1:HT.cW aw.size aw.size hi=aw.size) (h:Q (.ref t) s):wpAny (model prog w) A (getItem (.ref t) (.ref sl)) Q E s:=by
 obtain⟨os,E7,My,Ip⟩:=id hs
 have hT:s.TypeIs (.ref sl) "slice":=⟨os,E7,My⟩
 unfold getItem
 try with_reducible refine wpAny_holding ?_
 first|refine wX (wY ?_)|skip
 refine wX (wpAny_sequenceKey ht.typeIs (by decide) ?_)
 refine wX (wpAny_callSpecial?_slot (name:=Str.ofString "__getitem__") ht.typeIs PyProof.Rows.slot_tuple_getitem (wpAny_call_entry PyProof.Rows.slot_tuple_getitem ht.typeIs entry_tuple_getitem ?_ (args_tuple_getitem _ _)))
 show wpAny _ _ (Builtin.Tuple.tupleItemsOf (.ref t)>>=_) _ _ s
 refine wX (tupleItemsOf_ ht ?_)
 refine wX (wpAny_typeOf hT ?_)
 rw[if_pos (by decide)]
 refine wX (HT.gJ hs pl pu ?_)
 have R3:(((HT.cW aw.size 0 lo:Nat):Int) == 0 && (1:Int) == 1 && (HT.cW aw.size aw.size hi - HT.cW aw.size 0 lo) == aw.size)=true:=by
  rw[h0,h1];simp
 show wpAny _ _ (if(((HT.cW aw.size 0 lo:Nat):Int) == 0 && (1:Int) == 1 && (HT.cW aw.size aw.size hi - HT.cW aw.size 0 lo) == aw.size)=true then _ else _) _ _ s
 rw[if_pos R3]
 refine wX ?_
 unfold Builtin.Tuple.tupleIsExact
 refine wX (wpAny_typeOf ht.typeIs (wY ?_))
 show wpAny _ _ (if((Value.type "tuple") == Value.type "tuple")=true then _ else _) _ _ s
 rw[if_pos (by decide)]
 refine wX (wpAny_rule ?_)
 exact wY ⟨_,rfl,wY h⟩
theorem Dw:z9 X (λx lo hi H Q=>∃a xs,x=.ref a/\gA X.K H a xs/\HT.cW xs.length 0 lo=0/\HT.cW xs.length xs.length hi=xs.length/\Q (.ref a) H):=by
 intro ac s σ H x v vl vu lo hi sl Q I rx hs pl pu h;obtain⟨a,xs,rfl,hx,h0,h1,q⟩:=h;cases rx
 obtain⟨its,r,ht,hz⟩:=I.tuple hx;have bC:its.toArray.size=xs.length:=by rw[vH];exact r.length.symm
 refine⟨"tuple",_,PyProof.Rows.slot_tuple_getitem.lookup,ht.typeIs,?_⟩;exact y2 ht hs pl pu (by rw[bC];exact h0) (by rw[bC];exact h1) ⟨.ref a,H,I,rfl,q⟩
@[simp] def mN (fa:FE)(fl fh:FO):FE:=λρ=>(fa ρ).bind λx=>(fl ρ).bind λl=>(fh ρ).bind λh=>match x.1 with
 |.lst ds=>some (.lst (iP ds l h),true)
 |.tup ds=>some (.tup (iP ds l h),false)
 |.str z=>if z.length<=sizeLine then some (.str (Txt.slice z l h),false)else none
 |_=>none
theorem u8 {ds:List D}{lo hi:Option Int}(h0:HT.cW ds.length 0 lo=0)(h1:HT.cW ds.length ds.length hi=ds.length):iP ds lo hi=ds:=by
 unfold iP;rw[h0,h1];simp
theorem cc {lo hi:Option Expr}{p2:Pos}{fa:FE}{fl fh:FO}(ha:JE X e fa)(hl:JO X lo fl)(hh:JO X hi fh):JE X (.Subscript e (.Slice lo hi none p2) pos) (mN fa fl fh):=by
 refine PE.to (zV (z9.or (z9.or CN G9) (z9.or Dv Dw)) ha hl hh) λσ H Q q=>?_;obtain⟨B,ρ,d,b,sB,r,e,q⟩:=q;obtain⟨x,ex,e⟩:=oX e;obtain⟨l,el,e⟩:=oX e;obtain⟨h,eh,e⟩:=oX e;refine⟨B,ρ,x.1,x.2,sB,r,ex,λv H1 N1 x1 i1 _=>⟨N1,ρ,l,x1.nh,r.mono x1.bn,el,λH2 h2=>⟨N1,ρ,h,x1.nh.trans h2,r.mono x1.bn,eh,λH3 h3=>?_⟩⟩⟩;have s3:aQ N1 H3:=x1.nh.trans (h2.trans h3);have q3:=q.into (x1.trans (.grow x1.nh (h2.trans h3)));obtain⟨xd,xb⟩:=x;dsimp only at e i1;cases i1 with
 |@tup a' vs ds hs hv=>
  cases e
  by_cases hw:HT.cW ds.length 0 l=0/\HT.cW ds.length ds.length h=ds.length
  ·rw[u8 hw.1 hw.2]at q3;exact .inr (.inr ⟨a',vs,rfl,aZ s3 hs,by rw[hv.length];exact hw.1,by rw[hv.length];exact hw.2,q3.one s3 (.tup hs hv)⟩)
  ·refine .inl (.inr ⟨a',vs,rfl,aZ s3 hs,by rw[hv.length];exact hw,λp hp=>?_⟩);have x4:=Ext.laid (o:=.tup (oy vs l h)) s3 hp;exact q3 _ _ _ x4 (.tup (gA.of av) ((qC hv).mono x4.bn)) (by simp)
 |@lst a' vs ds hs hv=>
  cases e
  refine .inl (.inl ⟨a',vs,rfl,s3.seq hs,λp hp=>?_⟩);have x4:=Ext.laid (o:=.lst (oy vs l h)) s3 hp;exact q3 _ _ _ x4 (.lst (fO.of av) ((qC hv).mono x4.bn)) λ_=>⟨p,_,_,rfl,rfl,hp,av,(qC hv).mono x4.bn⟩
 |str z=>
  dsimp only at e;split at e
  ·rename_i hz;cases e
   exact .inr (.inl ⟨z,rfl,hz,q3.one s3 (.str _)⟩)
  ·cases e
 |_=>cases e
theorem const_int {K:Frag}{y:Str}{i:Int}{t:Tok}(e:PySem.W.nsIn K mainGlobals y=some (some (.int i t))):∃u v,PySem.W.nsIn K mainGlobals y=some (some u)/\aL v u/\∀B,Is K B v (.int i):=⟨_,.int i,e,⟨t,rfl⟩,λ_=>.int i⟩
theorem const_str {K:Frag}{y:Str}{i:Str}{t:Tok}(e:PySem.W.nsIn K mainGlobals y=some (some (.str i t))):∃u v,PySem.W.nsIn K mainGlobals y=some (some u)/\aL v u/\∀B,Is K B v (.str i):=⟨_,.str i,e,⟨t,rfl⟩,λ_=>.str i⟩
noncomputable def qF:Value->D->Bool
 |.none,.non=>true
 |.bool a,.bl b=>a == b
 |.int i _,.int j=>decide (i=j)
 |.str i _,.str j=>decide (i=j)
 |_,_=>false
def ij:List Value->List D->Bool
 |[],[]=>true
 |u::us,d::ds=>qF u d && ij us ds
 |_,_=>false
theorem jm {K:Frag}{B:Hp}:∀ {u:Value}{d:D},qF u d=true->∃v,aL v u/\Is K B v d
 |.none,.non,_=>⟨.non,rfl,.non⟩
 |.bool a,.bl b,h=>by
  have:a=b:=eq_of_beq h;subst this;exact⟨.bl a,rfl,.bl a⟩
 |.int i t,.int j,h=>by
  have:i=j:=of_decide_eq_true h;subst this;exact⟨.int i,⟨t,rfl⟩,.int i⟩
 |.str i t,.str j,h=>by
  have:i=j:=of_decide_eq_true h;subst this;exact⟨.str i,⟨t,rfl⟩,.str i⟩
theorem ik {K:Frag}:∀ {us:List Value}{ds:List D},ij us ds=true->∃vs,L2.aS vs us/\∀B,IsL K B vs ds
 |[],[],_=>⟨[],.nil,λ_=>.nil⟩
 |u::us,d::ds,h=>by
  rw[ij,vD]at h;obtain⟨vs,r,i⟩:=ik (K:=K) h.2;obtain⟨v,r1,_⟩:=jm (K:=K) (B:=λ_=>none) h.1;refine⟨v::vs,.cons r1 r,λB=>?_⟩;obtain⟨v',Ot,i'⟩:=jm (K:=K) (B:=B) h.1;have:v'=v:=by have z1:=r1.abs;rw[Ot.abs]at z1;exact vK z1
  subst this;exact .cons i' (i B)
theorem const_tup {K:Frag}{y:Str}{a:Addr}{od:Option Addr}{its:Array Value}{n:Nat}{kW:Array (Option Value)}{ds:List D}(e:PySem.W.nsIn K mainGlobals y=some (some (.ref a)))
  (l:K.lookup a=some ⟨.type "tuple",od,.seq its n,kW⟩) (h:(decide (its.size<=1000) && ij its.toList ds)=true):∃u v,PySem.W.nsIn K mainGlobals y=some (some u)/\aL v u/\∀B,Is K B v (.tup ds):=by
 rw[vD]at h;obtain⟨vs,r,i⟩:=ik (K:=K) h.2;exact⟨_,.ref a,e,rfl,λB=>.tup (.inr ⟨_,its,n,l,rfl,rfl,Nat.le_of_lt (Nat.lt_of_le_of_lt (of_decide_eq_true h.1) (by decide)),r⟩) (i B)⟩
end
section
variable {X:Cx}{a b o e:Expr}{pos:Pos}{x:Str}{p:Pos}{tg:Expr}
theorem dW {name:Str}{id:String}{eW bU:Pos}{op:D->D->OB}{fo fe:FE}(slot:Slot "str" name id)(Cw:typeOf (.builtin id)=pure (.type "method_descriptor"))
  (hm:zF X id (λx xs H Q=>∃y,xs=[y]/\rD X.K op x y H Q)) (Ca:∀dx dy r,op dx dy=some r->∃z,dx=.str z) (ho:JE X o fo) (he:JE X e fe)
  (gl:attributeBase o name X.env (eval o X.env)=eval o X.env:=by rfl)
  (om:((backTo bU (starEach [e] X.env)).all (λx=>!x.1) && (backToKw bU (keywordEach [] X.env)).all (λx=>x.1.isSome)
   && decide ([e].length+([]:List Keyword).length+(if([]:List Keyword).isEmpty then 0 else 1)<30))=true:=by rfl)
  (gm:(eW.endLine == bU.line)=true:=by rfl) (hs:starEach [e] X.env=[(false,eval e X.env)]:=by rfl):
  JE X (.Call (.Attribute o name eW) [e] [] bU) (f2 op fo fe):=by
 refine PE.to (rC PySem.F.plainAttrs_str slot Cw hm ho (bI he dq hs) gl om gm hs rfl) λσ H Q q=>?_;obtain⟨B,ρ,d,bb,sB,r,ee,q⟩:=q;obtain⟨x1,ex,ee⟩:=oX ee;obtain⟨y1,ey,ee⟩:=oX ee;obtain⟨z,hz⟩:=Ca _ _ _ ee;refine⟨B,ρ,x1.1,x1.2,sB,r,ex,λv H1 N1 Ou i1 _=>?_⟩;rw[hz]at i1;cases i1
 refine⟨show "str" = "str" from rfl,N1,ρ,y1.1,y1.2,Ou.nh,r.mono Ou.bn,ey,λv2 H2 N2 yc i2 _=>⟨v2,rfl,N2,.str z,y1.1,d,bb,yc.nh,.str z,i2,by rw[←hz];exact ee,q.into (Ou.trans yc)⟩⟩
@[simp] noncomputable def GY:D->Option Str
 |.str z=>some z
 |_=>none
def fu:List D->Option (List Str)
 |[]=>some []
 |d::ds=>(GY d).bind λz=>(fu ds).map (z :: ·)
@[simp] theorem IS:fu []=some []:=rfl
@[simp] theorem u9 (d:D)(ds:List D):fu (d::ds)=(GY d).bind λz=>(fu ds).map (z :: ·):=rfl
@[simp] theorem IT (zs:List Str):fu (zs.map D.str)=some zs:=by
 induction zs with
 |nil=>rfl
 |cons z zs ih=>simp[ih]
theorem gN {K:Frag}{B:Hp}:∀ {vs:List V}{ds:List D}{zs:List Str}{its:List Value},L2.aS vs its->IsL K B vs ds->fu ds=some zs->StrsAre its zs
 |_,_,_,_,.nil,.nil,e=>by cases e;exact .nil
 |_,_,_,_,.cons r rr,.cons i ii,e=>by
  rw[u9]at e;obtain⟨z,e1,e⟩:=oX e;obtain⟨zs,e2,e⟩:=oY e;subst e;cases i<;>simp only[GY]at e1<;>try (cases e1;done)
  cases e1
  obtain⟨t,rfl⟩:=r;exact .cons _ t (gN rr ii e2)
@[simp] def dn:D->D->OB
 |.str z4,.lst ds=>(fu ds).bind λzs=>if(zs.map (·.length)).sum+zs.length*z4.length<=16777216 then some (.str (Txt.join z4 zs),false)else none
 |.str z4,.tup ds=>(fu ds).bind λzs=>if(zs.map (·.length)).sum+zs.length*z4.length<=16777216 then some (.str (Txt.join z4 zs),false)else none
 |_,_=>none
theorem gC:zF X "str.join" (λx xs H Q=>∃y,xs=[y]/\rD X.K dn x y H Q):=by
 intro ac s σ H x xs v us Q I rx rs h;obtain⟨y,rfl,B,dx,dy,d,bb,sB,ix,iy,ee,q⟩:=h;obtain⟨u1,rfl,r1⟩:=gu rs;cases ix<;>(try (simp[dn]at ee;done))
 obtain⟨t,rfl⟩:=rx;cases iy<;>(try (simp[dn]at ee;done))
 ·rename_i h hl;simp only[dn]at ee;obtain⟨zs,ez,ee⟩:=oX ee;split at ee
  ·rename_i hok;cases ee
   cases r1
   obtain⟨its,rv,p1,z1⟩:=I.tuple (aZ sB h);exact join_tuple p1 (by simpa using gN rv hl ez) hok λt' k=>⟨.str _,H,I.tok k,⟨t',rfl⟩,q.one sB (.str _)⟩
  ·cases ee
 ·rename_i h hl;simp only[dn]at ee;obtain⟨zs,ez,ee⟩:=oX ee;split at ee
  ·rename_i hok;cases ee
   cases r1
   obtain⟨its,rv,p1,z1⟩:=I.list (sB.seq h);exact join_list p1.isList (by simpa using gN rv hl ez) hok λt' k=>⟨.str _,H,I.tok k,⟨t',rfl⟩,q.one sB (.str _)⟩
  ·cases ee
theorem dB (dx dy:D)(r:D×Bool)(h:dn dx dy=some r):∃z,dx=.str z:=by
 cases dx<;>first|exact⟨_,rfl⟩|(cases dy<;>simp[dn]at h)
noncomputable def eU:List Nat->List D->Env->Option Env
 |[],[],ρ=>some ρ
 |i::is,d::ds,ρ=>eU is ds (ρ.set i (some (d,false)))
 |_,_,_=>none
@[simp] theorem pe (ρ:Env):eU [] [] ρ=some ρ:=by rw[eU]
@[simp] theorem jK (i:Nat)(is:List Nat)(d:D)(ds:List D)(ρ:Env):eU (i::is) (d::ds) ρ=eU is ds (ρ.set i (some (d,false))):=by rw[eU]
@[simp] theorem Kl (d:D)(ds:List D)(ρ:Env):eU [] (d::ds) ρ=none:=by simp only[eU]
@[simp] theorem Km (i:Nat)(is:List Nat)(ρ:Env):eU (i::is) [] ρ=none:=by simp only[eU]
@[simp] def xg (is:List Nat):FG:=λd ρ=>match d with|.tup ds=>eU is ds ρ|_=>none
def mO:List Nat->Gn
 |[]=>Jv
 |i::is=>EL (gI i) (mO is)
theorem Aw:aQ (dw N (own σ ρ)) (dw N (own (σ.set i (some v)) (ρ.set i (some (d,false))))):=fP λa u e q=>⟨e,λz=>q (by
 rcases qy z with⟨_,d',p⟩|⟨j,_,d',q1,q2⟩
 ·cases p
 ·exact⟨j,d',q1,q2⟩)⟩
theorem pf {K:Frag}:∀ {is:List Nat}{vs:List V}{ds:List D}{B0 H0 N H:Hp}{σ:St}{ρ ρ':Env}{Q:St->Hp->Prop},dP K B0 H0 N H σ ρ->IsL K (dw N (own σ ρ)) vs ds->eU is ds ρ=some ρ'->(∀σ',dP K B0 H0 N H σ' ρ'->Q σ' H)->mO is vs σ H Q
 |[],_,_,_,_,_,_,_,_,_,_,s,.nil,e,k=>by
  rw[pe]at e;cases e;exact⟨rfl,k _ s⟩
 |[],_,_,_,_,_,_,_,_,_,_,_,.cons _ _,e,_=>by simp at e
 |_::_,_,_,_,_,_,_,_,_,_,_,_,.nil,e,_=>by simp at e
 |i::is,_,_,_,_,_,_,_,_,_,_,s,.cons h hs,e,k=>by
  rw[jK]at e;exact⟨_,_,rfl,pf (s.bind h) (hs.mono Aw) e k⟩
theorem lp:∀ {is:List Nat}{ds:List D}{ρ ρ':Env},eU is ds ρ=some ρ'->ds.length=is.length
 |[],[],_,_,_=>rfl
 |_::_,_::_,_,_,e=>by rw[jK]at e;simp[lp e]
 |[],_::_,_,_,e=>by simp at e
 |_::_,[],_,_,e=>by simp at e
theorem Fe {K:Frag}{is:List Nat}:Cp K (xg is) (Gp K is.length (mO is)):=by
 intro B0 H0 N H σ ρ ρ' v d Q s h e k;cases h with
 |@tup a vs ds ht hl=>
  have e':eU is ds ρ=some ρ':=e;exact⟨a,vs,rfl,aZ (bJ.trans s.ext.nh) ht,by rw[hl.length];exact lp e',pf s hl e' λσ' s'=>k σ' H ⟨N,s'⟩⟩
 |_=>cases e
theorem ph {K:Frag}{n:Nat}{B H:Hp}{ρ0:Env}{Q:St->Hp->Prop}(cl:∀i,i<n->ρ0[i]? = some none):∀ {is:List Nat}{vs:List V}{ds:List D}{σ:St}{ρ ρ1:Env},(∀i∈is,i<n)->eA K B σ ρ->IsL K B vs ds->eU is ds ρ=some ρ1->ρ.length=σ.length->ρ.length=ρ0.length ->
  (∀σ1,eA K B σ1 ρ1->(∀B',eA K B' σ ρ0->eA K B' σ1 ρ0)->ρ0.length=σ1.length->Q σ1 H)->mO is vs σ H Q
 |[],_,_,_,_,_,_,rp,.nil,e,l1,l2,k=>by
  rw[pe]at e;cases e;exact⟨rfl,k _ rp (λ_ z=>z) (by omega)⟩
 |[],_,_,_,_,_,_,_,.cons _ _,e,_,_,_=>by simp at e
 |_::_,_,_,_,_,_,_,_,.nil,e,_,_,_=>by simp at e
 |i::is,_,_,σ,ρ,_,hn,rp,.cons (v:=v) h hs,e,l1,l2,k=>by
  rw[jK]at e;have hi:=hn i mX;have zq:i<σ.length:=by
   have:=(vV (cl i hi)).1;omega
  refine⟨_,_,rfl,ph cl (λj hj=>hn j (mZ _ hj)) ⟨rp.tb,λj d b q=>?_⟩ hs e (by simpa using l1) (by simpa using l2) λσ1 r1 r2 l=>k σ1 r1 (λB' z=>r2 B' ⟨z.tb,λj d b q=>?_⟩) l⟩
  ·rcases bO q with⟨rfl,pp⟩|⟨ne,pp⟩
   ·cases pp
    exact⟨v,by simp[zq],h⟩
   ·obtain⟨w,h1,h2⟩:=rp.at' j d b pp;exact⟨w,by rw[vC ne];exact h1,h2⟩
  ·obtain⟨w,h1,h2⟩:=z.at' j d b q;have ne:i≠j:=λz=>by subst z;rw[cl i hi]at q;cases q
   exact⟨w,by rw[vC ne];exact h1,h2⟩
theorem Ff {K:Frag}{n:Nat}{is:List Nat}(hn:∀i∈is,i<n):EU K n (xg is) (Gp K is.length (mO is)):=by
 intro B H σ ρ ρ1 v d Q cl rep s h e hl k;cases h with
 |@tup a vs ds ht hv=>
  have e':eU is ds ρ=some ρ1:=e;exact⟨a,vs,rfl,aZ s ht,by rw[hv.length];exact lp e',ph cl hn rep hv e' hl rfl k⟩
 |_=>cases e
end
section
variable {prog:Program}{w:World}{A:Around}{E:Value->Shared->Prop}{s:Shared}
theorem uA (st:s.heap.IsTupleIter it l i)(ht:s.heap.IsTuple l aw)(hv:aw[i]? = some v)
  (k:∀h',h'.IsTupleIter it l (i+1)->Heap.SameBut it s.heap h'->Q v { s with heap:=h' }):wpAny (model prog w) A (Builtin.SmallTypes.nextOf (.ref it)) Q E s:=by
 obtain⟨o1,g1,c1,d1⟩:=id st;obtain⟨o2,g2,_,n2,d2⟩:=ht;unfold Builtin.SmallTypes.nextOf;refine wX (wpAny_callSpecial?_slot (name:=Str.ofString "__next__") st.typeIs PySem.F.slot_tuple_iterator_next (wpAny_call_entry PySem.F.slot_tuple_iterator_next st.typeIs PySem.F.entry_tuple_iterator_next ?_ (PySem.F.args_tuple_iterator_next_1 _)));show wpAny _ _ (field (.ref it) 0>>=_) _ _ _;refine wX (wpAny_field g1 d1 (x:=.ref l) rfl ?_);show wpAny _ _ (if(Value.ref l == Value.none)=true then _ else _) _ _ _;rw[if_neg (λz=>uY z:¬((Value.ref l == Value.none)=true))];show wpAny _ _ (field (.ref it) 1>>=_) _ _ _;refine wX (wpAny_field g1 d1 (x:=.int i 0) rfl ?_);show wpAny _ _ (seqItems? (.ref l)>>=_) _ _ _;refine wX (wpAny_seqItems g2 d2 ?_);simp only[hv,Int.toNat_natCast];refine wX (wpAny_setField g1 d1 (by simp) (wY ⟨v,rfl,wY (k _ ?_ (vW ..))⟩));exact⟨_,Heap.get?_update_self _ g1 (Obj.isFreed_of_fields (Obj.data_mapFields d1 _)),(Obj.cls_mapFields ..).trans c1,by rw[Obj.data_mapFields d1];simp[rawInt]⟩
theorem y3 (hA:A.handled=none)(st:s.heap.IsTupleIter it l i)(ht:s.heap.IsTuple l aw)(hv:aw[i]? = none)
  (k:∀h' x,Heap.ExtBut it s.heap h'->(∃o,h'.get? x=some o/\o.cls=.type "StopIteration")->E (.ref x) { s with heap:=h' }):wpAny (model prog w) A (Builtin.SmallTypes.nextOf (.ref it)) Q E s:=by
 obtain⟨o1,g1,c1,d1⟩:=id st;obtain⟨o2,g2,_,n2,d2⟩:=ht;unfold Builtin.SmallTypes.nextOf;refine wX (wpAny_callSpecial?_slot (name:=Str.ofString "__next__") st.typeIs PySem.F.slot_tuple_iterator_next (wpAny_call_entry PySem.F.slot_tuple_iterator_next st.typeIs PySem.F.entry_tuple_iterator_next ?_ (PySem.F.args_tuple_iterator_next_1 _)));show wpAny _ _ (field (.ref it) 0>>=_) _ _ _;refine wX (wpAny_field g1 d1 (x:=.ref l) rfl ?_);show wpAny _ _ (if(Value.ref l == Value.none)=true then _ else _) _ _ _;rw[if_neg (λz=>uY z:¬((Value.ref l == Value.none)=true))];show wpAny _ _ (field (.ref it) 1>>=_) _ _ _;refine wX (wpAny_field g1 d1 (x:=.int i 0) rfl ?_);show wpAny _ _ (seqItems? (.ref l)>>=_) _ _ _;refine wX (wpAny_seqItems g2 d2 ?_);simp only[hv,Int.toNat_natCast];refine wX (wpAny_rule (wX (wpAny_setField g1 d1 (by simp) ?_)));show wpAny _ _ (newExc (.type "StopIteration") []>>=_) _ _ _;refine wX ?_;simp only[newTuple,newExc];refine wX (wpAny_newObj_type ?_ (by size_fits));refine wX (m:=firstArgMember _ _) (wpAny_of_eq (a:=Value.none) (by first|(simp only[firstArgMember];rfl)|rfl) ?_);refine wpAny_newObj_type ?_ (by size_fits);simp only[raiseNew];refine wX (wpAny_handled ?_);first|rw[hA]|rw[show A.in1.handled=none from hA]
 exact wX (wY (wpAny_throw (k _ _ (((vW ..).extBut.push _).push _) ⟨_,vY _ rfl,rfl⟩)))
end
def jZ:Bool->Heap->Addr->Addr->Nat->Prop
 |true,h,it,a,i=>h.IsListIter it a i
 |false,h,it,a,i=>h.IsTupleIter it a i
def jL:Bool->Heap->Addr->Array Value->Prop
 |true,h,a,aw=>h.IsList a aw
 |false,h,a,aw=>h.IsTuple a aw
def lV (k:Bool)(K:Frag)(H:Hp)(a:Addr)(xs:List V):Prop:=match k with|true=>fO K H a xs|false=>gA K H a xs
theorem jZ.ob (st:jZ k h it a i):∃o,h.get? it=some o/\∀v,o.data≠.cell v:=by
 cases k<;>(obtain⟨o,g,_,d⟩:=st;exact⟨o,g,λv z=>by rw[d]at z;cases z⟩)
theorem jZ.upon (st:jZ k h it a i)(g:∀o,h.get? it=some o->h'.get? it=some o):jZ k h' it a i:=by
 cases k<;>(obtain⟨o,e,r⟩:=st;exact⟨o,g o e,r⟩)
theorem jL.upon (st:jL k h a aw)(g:∀o,h.get? a=some o->h'.get? a=some o):jL k h' a aw:=by
 cases k<;>(obtain⟨o,e,r⟩:=st;exact⟨o,g o e,r⟩)
theorem jL.lt (st:jL k h a aw):a<h.objs.size:=by
 cases k<;>(obtain⟨o,e,r⟩:=st;exact vX e)
theorem lV.same {k:Bool}{K:Frag}{H H':Hp}{a:Addr}{xs:List V}(h:lV k K H a xs)(e:aQ H H'):lV k K H' a xs:=by
 cases k
 ·exact aZ e h
 ·exact e.seq h
theorem lV.vals (I:Inv X ac σ H s)(h:lV k X.K H a xs):∃its:List Value,aS xs its/\jL k s.heap a its.toArray/\xs.length<=sizeLine:=by
 cases k
 ·exact I.tuple h
 ·obtain⟨its,r,p,z⟩:=I.list h;exact⟨its,r,p.isList,z⟩
theorem lV.inj (I:Inv X ac σ H s)(h:lV k X.K H a xs)(h':lV k X.K H a ys):xs=ys:=by
 cases k
 ·exact I.tuple_inj h h'
 ·exact I.list_inj h h'
section
variable {prog:Program}{w:World}{A:Around}{E:Value->Shared->Prop}{s:Shared}
theorem fK (st:jZ k s.heap it l i)(ht:jL k s.heap l aw)(hv:aw[i]? = some v)
  (q:∀h',jZ k h' it l (i+1)->Heap.SameBut it s.heap h'->Q v { s with heap:=h' }):wpAny (model prog w) A (Builtin.SmallTypes.nextOf (.ref it)) Q E s:=by
 cases k
 ·exact uA st ht hv q
 ·exact wpAny_nextOf_list_item st ht hv q
theorem km (hA:A.handled=none)(st:jZ k s.heap it l i)(ht:jL k s.heap l aw)(hv:aw[i]? = none)
  (q:∀h' x,Heap.ExtBut it s.heap h'->(∃o,h'.get? x=some o/\o.cls=.type "StopIteration")->E (.ref x) { s with heap:=h' }):wpAny (model prog w) A (Builtin.SmallTypes.nextOf (.ref it)) Q E s:=by
 cases k
 ·exact y3 hA st ht hv q
 ·exact wpAny_nextOf_list_end hA st ht hv q
end
noncomputable def Mo (k:Bool)(l:Addr):Obj:={ cls:=.type (if k=true then "list_iterator" else "tuple_iterator"),data:=.fields #[.ref l,.int 0 0] }
theorem xh (ht:jL k s.heap l aw)
  (q:Q (.ref s.heap.objs.size) { s with heap:=s.heap.push (Mo k l) }):wpAny (model prog w) A (pyIter (.ref l)) Q E s:=by
 cases k
 ·exact wpAny_pyIter_tuple ht q
 ·exact wpAny_pyIter_list ht q
theorem jL.push (st:jL k h a aw)(o:Obj):jL k (h.push o) a aw:=st.upon λ_ e=>vZ _ e
section
variable (k1 k2:Bool) (h:Heap) (l1 l2:Addr)
abbrev zA:Heap:=h.push (Mo k1 l1)
abbrev zB:Heap:=(zA k1 h l1).push (Mo k2 l2)
abbrev zC:Heap:=(zB k1 k2 h l1 l2).push { cls:=.type "tuple",data:=.seq #[.ref h.objs.size,.ref (zA k1 h l1).objs.size] }
abbrev zD:Heap:=(zC k1 k2 h l1 l2).push { cls:=.type "tuple",data:=.seq #[.none,.none] }
abbrev zE:Heap:=(zD k1 k2 h l1 l2).push { cls:=.type "zip",data:=.fields #[.none,.bool false,.bool false,.ref (zB k1 k2 h l1 l2).objs.size,.ref (zC k1 k2 h l1 l2).objs.size] }
end
theorem uB (k1 k2:Bool)(l1 l2:Addr)(xs ys:Array Value):Meets (Builtin.«zip.__new__» ⟨[.type "zip",.ref l1,.ref l2],[]⟩) (λ_ R s=>jL k1 s.heap l1 xs/\jL k2 s.heap l2 ys /\
   R (.ok (.ret (.ref (zD k1 k2 s.heap l1 l2).objs.size))) { s with heap:=zE k1 k2 s.heap l1 l2 }) :=
 .of_wp λprog w A R s hs=>by
  obtain⟨hp,g,d,tk,os⟩:=s;obtain⟨q1,q2,hs⟩:=hs;have Cb:=sub_zip;have p1:jL k1 (Shared.heap ⟨hp,g,d,tk,os⟩) l1 xs:=q1;have p2:jL k2 (Shared.heap ⟨hp.push (Mo k1 l1),g,d,tk,os⟩) l2 ys:=jL.push q2 _;wp_walk using xh p1,xh p2;exact⟨_,rfl,hs⟩
section
variable {prog:Program}{w:World}{A:Around}{E:Value->Shared->Prop}{s:Shared}
theorem xi (q1:jL k1 s.heap l1 xs)(q2:jL k2 s.heap l2 ys)
  (q:∀h',IsZip h' (s.heap.objs.size+4) (s.heap.objs.size+2) (s.heap.objs.size+3) .none->IsPair h' (s.heap.objs.size+2) (.ref s.heap.objs.size) (.ref (s.heap.objs.size+1))->IsPair h' (s.heap.objs.size+3) .none .none ->
   jZ k1 h' s.heap.objs.size l1 0->jZ k2 h' (s.heap.objs.size+1) l2 0->(∀c o,s.heap.get? c=some o->h'.get? c=some o)->Q (.ref (s.heap.objs.size+4)) { s with heap:=h' }):
  wpAny (model prog w) A (call (.type "zip") [.ref l1,.ref l2]) Q E s:=by
 refine callType_new PySem.F.called_zip (by decide) (PySem.F.typeCall_zip_2 _ _) (PySem.F.newCall_zip_2 _ _) (λobj=>PySem.F.args_object_init_3 obj _ _) PySem.F.entry_zip_new (uB k1 k2 l1 l2 xs ys) ⟨q1,q2,?_⟩;have n1:(zA k1 s.heap l1).objs.size=s.heap.objs.size+1:=Heap.size_push ..;have n2:(zB k1 k2 s.heap l1 l2).objs.size=s.heap.objs.size+2:=by rw[Heap.size_push,n1]
 have n3:(zC k1 k2 s.heap l1 l2).objs.size=s.heap.objs.size+3:=by rw[Heap.size_push,n2]
 have n4:(zD k1 k2 s.heap l1 l2).objs.size=s.heap.objs.size+4:=by rw[Heap.size_push,n3]
 have u5:∀ {c o},(zD k1 k2 s.heap l1 l2).get? c=some o->(zE k1 k2 s.heap l1 l2).get? c=some o:=λe=>vZ _ e;have u4:∀ {c o},(zC k1 k2 s.heap l1 l2).get? c=some o->(zE k1 k2 s.heap l1 l2).get? c=some o:=λe=>u5 (vZ _ e);have u3:∀ {c o},(zB k1 k2 s.heap l1 l2).get? c=some o->(zE k1 k2 s.heap l1 l2).get? c=some o:=λe=>u4 (vZ _ e);have u2:∀ {c o},(zA k1 s.heap l1).get? c=some o->(zE k1 k2 s.heap l1 l2).get? c=some o:=λe=>u3 (vZ _ e);have u1:∀ {c o},s.heap.get? c=some o->(zE k1 k2 s.heap l1 l2).get? c=some o:=λe=>u2 (vZ _ e);have g5:(zE k1 k2 s.heap l1 l2).get? (zD k1 k2 s.heap l1 l2).objs.size=some _:=vY _ rfl;have g4:(zE k1 k2 s.heap l1 l2).get? (zC k1 k2 s.heap l1 l2).objs.size=some _:=u5 (vY _ rfl);have g3:(zE k1 k2 s.heap l1 l2).get? (zB k1 k2 s.heap l1 l2).objs.size=some _:=u4 (vY _ rfl);have g2:(zE k1 k2 s.heap l1 l2).get? (zA k1 s.heap l1).objs.size=some _:=u3 (vY _ (by cases k2<;>rfl))
 have g1:(zE k1 k2 s.heap l1 l2).get? s.heap.objs.size=some _:=u2 (vY _ (by cases k1<;>rfl))
 rw[n2,n3,n4]at g5;rw[n1,n2]at g3;rw[n3]at g4;rw[n1]at g2;show _/\_;rw[n4];refine⟨⟨_,g5,rfl⟩,q _ g5 g3 g4 ?_ ?_ λc o e=>u1 e⟩
 ·cases k1<;>exact⟨_,g1,rfl,rfl⟩
 ·cases k2<;>exact⟨_,g2,rfl,rfl⟩
structure ZApart (z TI TO i1 i2:Addr):Prop where
 tz:TI≠z
 oz:TO≠z
 az:i1≠z
 bz:i2≠z
 oa:TO≠i1
 ob:TO≠i2
 to:TI≠TO
 ta:TI≠i1
 tb:TI≠i2
 ab:i1≠i2
theorem sf {k1 k2:Bool}{z TI TO i1 i2 l1 l2:Addr}{j:Nat}{xs ys:Array Value}{x y a b:Value}{Q:Value->Shared->Prop}(D:ZApart z TI TO i1 i2)(m1:l1≠z/\l1≠TO/\l1≠i1)(m2:l2≠z/\l2≠TO/\l2≠i1/\l2≠i2)
  (hz:IsZip s.heap z TI TO .none) (hI:IsPair s.heap TI (.ref i1) (.ref i2)) (hO:IsPair s.heap TO a b) (t1:jZ k1 s.heap i1 l1 j) (t2:jZ k2 s.heap i2 l2 j) (q1:jL k1 s.heap l1 xs) (q2:jL k2 s.heap l2 ys) (hx:xs[j]? = some x) (hy:ys[j]? = some y)
  (q:∀h',IsZip h' z TI TO (rawInt s.heap.objs.size)->IsPair h' TO x y->jZ k1 h' i1 l1 (j+1)->jZ k2 h' i2 l2 (j+1)->IsPair h' s.heap.objs.size x y->h'.objs.size=s.heap.objs.size+1 ->
   (∀c o,c≠z->c≠TO->c≠i1->c≠i2->s.heap.get? c=some o->h'.get? c=some o)->Q (.ref s.heap.objs.size) { s with heap:=h' }):
  wpAny (model prog w) A (Builtin.«zip.__next__» ⟨[.ref z],[]⟩) (λgY s'=>∃v,gY=.done (.ret v)/\Q v s') E s:=by
 show wpAny _ _ (field (.ref z) 2>>=_) _ _ s;refine wX (wpAny_field hz rfl (x:=.bool false) rfl ?_);show wpAny _ _ (field (.ref z) 3>>=_) _ _ s;refine wX (wpAny_field hz rfl (x:=.ref TI) rfl (wX (wpAny_seqItems hI rfl ?_)));show wpAny _ _ (Builtin.SmallTypes.ownedTupleIsFree (.ref z)>>=_) _ _ s;refine wX ?_;unfold Builtin.SmallTypes.ownedTupleIsFree;refine wX (wpAny_field hz rfl (x:=.none) rfl (wY ?_));simp only[if_true];refine wX (wpAny_rule (wX (wpAny_field hz rfl (x:=.ref TO) rfl (wX (wpAny_setField_rec hz (by simp) λg1 hz1 s1=>?_)))));replace hz1:IsZip g1 z TI TO .ellipsis:=hz1;refine wX ?_;simp only[List.forIn_cons,List.forIn_nil,List.zipIdx_cons,List.zipIdx_nil];refine wX (wX (wpAny_onRaise ?_));show wpAny _ _ (Builtin.SmallTypes.nextOf (.ref i1)>>=_) _ _ { s with heap:=g1 };refine wX (fK (s:={ s with heap:=g1 }) (t1.upon λo e=>s1.extBut _ _ D.az e) (q1.upon λo e=>s1.extBut _ _ m1.1 e) hx λg2 t12 s2=>wY ?_);have LH:IsPair g2 TO a b:=s2.extBut _ _ D.oa (s1.extBut _ _ D.oz hO);refine wX (wpAny_seqItems LH rfl (wX (wpAny_updateSeq_pair LH λg3 hO3 s3=>?_)));replace hO3:IsPair g3 TO x b:=hO3;refine wX (wpAny_letGo (wY (wX (wX (wpAny_onRaise ?_)))));show wpAny _ _ (Builtin.SmallTypes.nextOf (.ref i2)>>=_) _ _ { s with heap:=g3 };have Iw:∀ {c o},c≠z->c≠TO->c≠i1->s.heap.get? c=some o->g3.get? c=some o:=λc1 c2 c3 e=>s3.extBut _ _ c2 (s2.extBut _ _ c3 (s1.extBut _ _ c1 e));refine wX (fK (s:={ s with heap:=g3 }) (t2.upon λo e=>Iw D.bz D.ob.symm D.ab.symm e) (q2.upon λo e=>Iw m2.1 m2.2.1 m2.2.2.1 e) hy λg4 t24 s4=>wY ?_);have PV:IsPair g4 TO x b:=s4.extBut _ _ D.ob hO3;refine wX (wpAny_seqItems PV rfl (wX (wpAny_updateSeq_pair PV λg5 hO5 s5=>?_)));replace hO5:IsPair g5 TO x y:=hO5;refine wX (wpAny_letGo (wY (wY (wX (wpAny_seqItems hO5 rfl (wX (wpAny_newTuple ?_)))))));have sz:g5.objs.size=s.heap.objs.size:=by rw[s5.1,s4.1,s3.1,s2.1,s1.1]
 have R4:∀c o,c≠z->c≠TO->c≠i1->c≠i2->s.heap.get? c=some o->g5.get? c=some o:=λc o c1 c2 c3 c4 e=>s5.extBut _ _ c2 (s4.extBut _ _ c4 (Iw c1 c2 c3 e));have PX:IsZip g5 z TI TO .ellipsis:=s5.extBut _ _ D.oz.symm (s4.extBut _ _ D.bz.symm (s3.extBut _ _ D.oz.symm (s2.extBut _ _ D.az.symm hz1)));have R5:jZ k1 g5 i1 l1 (j+1):=t12.upon λo e=>s5.extBut _ _ D.oa.symm (s4.extBut _ _ D.ab (s3.extBut _ _ D.oa.symm e));have R6:jZ k2 g5 i2 l2 (j+1):=t24.upon λo e=>s5.extBut _ _ D.ob.symm e;have PY:z<g5.objs.size:=vX PX;show wpAny _ _ (Builtin.SmallTypes.ownedTupleHandOut (.ref z) (.ref g5.objs.size)>>=_) _ _ { s with heap:=g5.push { cls:=.type "tuple",data:=.seq #[x,y] } };refine wX ?_;unfold Builtin.SmallTypes.ownedTupleHandOut;have R7:IsZip (g5.push { cls:=.type "tuple",data:=.seq #[x,y] }) z TI TO .ellipsis:=vZ _ PX;refine wX (wpAny_setField_rec R7 (by simp) λg7 hz7 s7=>?_);replace hz7:IsZip g7 z TI TO (rawInt g5.objs.size):=hz7;refine wpAny_setField_rec hz7 (by simp) λg8 hz8 s8=>?_;replace hz8:IsZip g8 z TI TO (rawInt g5.objs.size):=hz8;have M5:∀c o,c≠z->g5.get? c=some o->g8.get? c=some o:=λc o c1 e=>s8.extBut _ _ c1 (s7.extBut _ _ c1 (vZ _ e));have PZ:IsPair g8 g5.objs.size x y:=s8.extBut _ _ (Nat.ne_of_gt PY) (s7.extBut _ _ (Nat.ne_of_gt PY) (vY _ rfl));have Qa:g8.objs.size=g5.objs.size+1:=by rw[s8.1,s7.1,Heap.size_push]
 rw[sz]at hz8 PZ Qa;refine wY ⟨_,rfl,?_⟩;show Q (.ref g5.objs.size) _;rw[sz];exact q g8 hz8 (M5 _ _ D.oz hO5) (R5.upon λo e=>M5 _ o D.az e) (R6.upon λo e=>M5 _ o D.bz e) PZ Qa λc o c1 c2 c3 c4 e=>M5 c o c1 (R4 c o c1 c2 c3 c4 e)
end
section
variable {prog:Program}{w:World}{A:Around}{E:Value->Shared->Prop}{s:Shared}
theorem xj {k1 k2:Bool}{z TI TO i1 i2 l1 l2:Addr}{j:Nat}{xs ys:Array Value}{a b:Value}{Q:PySem.Fin->Shared->Prop}(hA:A.handled=none)(D:ZApart z TI TO i1 i2)(m1:l1≠z/\l1≠TO/\l1≠i1)(m2:l2≠z/\l2≠TO/\l2≠i1/\l2≠i2)
  (hz:IsZip s.heap z TI TO .none) (hI:IsPair s.heap TI (.ref i1) (.ref i2)) (hO:IsPair s.heap TO a b) (t1:jZ k1 s.heap i1 l1 j) (t2:jZ k2 s.heap i2 l2 j) (q1:jL k1 s.heap l1 xs) (q2:jL k2 s.heap l2 ys) (he:xs[j]? = none∨ys[j]? = none)
  (q:∀h' x,(∀c o,c≠z->c≠TO->c≠i1->c≠i2->s.heap.get? c=some o->h'.get? c=some o)->(∃o,h'.get? x=some o/\o.cls=.type "StopIteration")->E (.ref x) { s with heap:=h' }):
  wpAny (model prog w) A (Builtin.«zip.__next__» ⟨[.ref z],[]⟩) Q E s:=by
 show wpAny _ _ (field (.ref z) 2>>=_) _ _ s;refine wX (wpAny_field hz rfl (x:=.bool false) rfl ?_);show wpAny _ _ (field (.ref z) 3>>=_) _ _ s;refine wX (wpAny_field hz rfl (x:=.ref TI) rfl (wX (wpAny_seqItems hI rfl ?_)));show wpAny _ _ (Builtin.SmallTypes.ownedTupleIsFree (.ref z)>>=_) _ _ s;refine wX ?_;unfold Builtin.SmallTypes.ownedTupleIsFree;refine wX (wpAny_field hz rfl (x:=.none) rfl (wY ?_));simp only[if_true];refine wX (wpAny_rule (wX (wpAny_field hz rfl (x:=.ref TO) rfl (wX (wpAny_setField_rec hz (by simp) λg1 hz1 s1=>?_)))));replace hz1:IsZip g1 z TI TO .ellipsis:=hz1;refine wX ?_;simp only[List.forIn_cons,List.forIn_nil,List.zipIdx_cons,List.zipIdx_nil];refine wX (wX (wpAny_onRaise ?_));show wpAny _ _ (Builtin.SmallTypes.nextOf (.ref i1)>>=_) _ _ { s with heap:=g1 };cases hx:xs[j]? with
 |none=>
  refine wX (km (s:={ s with heap:=g1 }) hA (t1.upon λo e=>s1.extBut _ _ D.az e) (q1.upon λo e=>s1.extBut _ _ m1.1 e) hx λg2 x s2 hX=>?_);obtain⟨oU,eX,cX⟩:=hX;have M6:IsZip g2 z TI TO .ellipsis:=s2 _ _ D.az.symm hz1;have nz:x≠z:=λz'=>by subst z';rw[M6]at eX;cases eX;simp at cX
  exact wpAny_setField_rec M6 (by simp) λg3 _ s3=>q g3 x (λc o c1 _ c3 _ e=>s3.extBut _ _ c1 (s2 _ _ c3 (s1.extBut _ _ c1 e))) ⟨oU,s3.extBut _ _ nz eX,cX⟩
 |some v=>
  have hy:ys[j]? = none:=by
   rcases he with h|h
   ·rw[hx]at h;cases h
   ·exact h
  refine wX (fK (s:={ s with heap:=g1 }) (t1.upon λo e=>s1.extBut _ _ D.az e) (q1.upon λo e=>s1.extBut _ _ m1.1 e) hx λg2 t12 s2=>wY ?_);have LH:IsPair g2 TO a b:=s2.extBut _ _ D.oa (s1.extBut _ _ D.oz hO);refine wX (wpAny_seqItems LH rfl (wX (wpAny_updateSeq_pair LH λg3 hO3 s3=>?_)));refine wX (wpAny_letGo (wY (wX (wX (wpAny_onRaise ?_)))));show wpAny _ _ (Builtin.SmallTypes.nextOf (.ref i2)>>=_) _ _ { s with heap:=g3 };have Iw:∀ {c o},c≠z->c≠TO->c≠i1->s.heap.get? c=some o->g3.get? c=some o:=λc1 c2 c3 e=>s3.extBut _ _ c2 (s2.extBut _ _ c3 (s1.extBut _ _ c1 e));refine wX (km (s:={ s with heap:=g3 }) hA (t2.upon λo e=>Iw D.bz D.ob.symm D.ab.symm e) (q2.upon λo e=>Iw m2.1 m2.2.1 m2.2.2.1 e) hy λg4 x s4 hX=>?_);obtain⟨oU,eX,cX⟩:=hX;have Qb:IsZip g4 z TI TO .ellipsis:=s4 _ _ D.bz.symm (s3.extBut _ _ D.oz.symm (s2.extBut _ _ D.az.symm hz1));have nz:x≠z:=λz'=>by subst z';rw[Qb]at eX;cases eX;simp at cX
  exact wpAny_setField_rec Qb (by simp) λg5 _ s5=>q g5 x (λc o c1 c2 c3 c4 e=>s5.extBut _ _ c1 (s4 _ _ c4 (Iw c1 c2 c3 e))) ⟨oU,s5.extBut _ _ nz eX,cX⟩
end
theorem mm {X:Cx}{ac:List (Addr×Obj)}{σ:St}{H:Hp}{s:Shared}{h':Heap}{t':Nat}{ch:List Addr}(I:Inv X ac σ H s)(f:∀b∈ch,kc X ac H b)(k:∀b o,b∉ch->s.heap.get? b=some o->h'.get? b=some o):Inv X ac σ H { s with heap:=h',toks:=t' }:=by
 have F7:∀b u,H b=some u->b∉ch:=λb u e z=>by rw[(f b z).1]at e;cases e
 refine I.step (g':=s.gens) (d':=s.drawn) (ch:=ch) (λb hb=>?_) (λb o _ _ hc e _=>k b o hc e) (λb o _ _ hc e _=>⟨o.slots,k b o hc e⟩) (λ_ _ _ _ n=>n)
  (λb o hc e=>⟨o,k b o hc e⟩) (λ_ _ e=>e) (λ_ _ _ e=>e) (λ_ _ e=>e) (λm hm=>?_) (λb u e=>?_) I.bare
 ·obtain⟨_,f1,_,f3,f4,f5⟩:=f b hb;exact⟨f3,f1,f4,f5⟩
 ·obtain⟨o,es,ep,ho,r⟩:=hm;exact⟨o,es,ep,k _ o (λz=>(f _ z).2.1 rfl) ho,r⟩
 ·refine(I.hok b u e).stay (λc v hc q=>k c v ?_ q) (λ_ q=>q) (λ_ _ q=>q) λ_ _ _ q=>q;rcases hc with z|z
  ·rw[z];exact F7 b u e
  ·exact F7 c _ z
theorem Ax {X:Cx}{ac:List (Addr×Obj)}{σ:St}{H:Hp}{s:Shared}{h':Heap}{t':Nat}{ch:List Addr}{a:Addr}{ob:HO}(I:Inv X ac σ H s)(f:∀b∈ch,kc X ac H b)(k:∀b o,b∉ch->s.heap.get? b=some o->h'.get? b=some o)(ha:s.heap.objs.size<=a)
  (new:bF X.prog X.w (upd H a ob) h' a ob):Inv X ac σ (upd H a ob) { s with heap:=h',toks:=t' }:=by
 have hn:H a=none:=I.hok.fresh ha;have F7:∀b u,H b=some u->b∉ch:=λb u e z=>by rw[(f b z).1]at e;cases e
 have na:∀b o,s.heap.get? b=some o->b≠a:=λb o e=>vS (vQ (vX e) ha);refine I.step (g':=s.gens) (d':=s.drawn) (ch:=ch) (λb hb=>?_) (λb o _ _ hc e _=>k b o hc e) (λb o _ _ hc e _=>⟨o.slots,k b o hc e⟩) (λb o _ e n=>by rw[aA (na b o e)];exact n)
  (λb o hc e=>⟨o,k b o hc e⟩) (λb xs e=>by rw[aA (aV e hn)];exact e) (λb o u e=>by rw[aA (aV e hn)];exact e) (λb ps e=>by rw[aA (aV e hn)];exact e) (λm hm=>?_) (λb u e=>?_) I.bare
 ·obtain⟨_,f1,_,f3,f4,f5⟩:=f b hb;exact⟨f3,f1,f4,f5⟩
 ·obtain⟨o,es,ep,ho,r⟩:=hm;exact⟨o,es,ep,k _ o (λz=>(f _ z).2.1 rfl) ho,r⟩
 ·by_cases hb:b=a
  ·subst hb;rw[av]at e;cases e;exact new
  ·rw[aA hb]at e;refine(I.hok b u e).stay (λc v hc q=>k c v ?_ q) (λc q=>?_) (λc xs q=>?_) λc o xs q=>?_
   ·rcases hc with z|z
    ·rw[z];exact F7 b u e
    ·exact F7 c _ z
   ·rw[aA (aV q hn)];exact q
   ·rw[aA (aV q hn)];exact q
   ·rw[aA (aV q hn)];exact q
noncomputable def No (K:Frag)(k1 k2:Bool)(a1 a2:Addr):It :=
  ⟨λi H=>∃xs ys x y,lV k1 K H a1 xs/\lV k2 K H a2 ys/\xs[i]? = some x/\ys[i]? = some y,
   λi H v H'=>∃T x y,v=.ref T/\H T=none/\H'=upd H T (.tup [x,y])/\(∀xs,lV k1 K H a1 xs->xs[i]? = some x)/\(∀ys,lV k2 K H a2 ys->ys[i]? = some y),
   λi H=>∃xs ys,lV k1 K H a1 xs/\lV k2 K H a2 ys/\(xs.length<=i∨ys.length<=i)⟩
theorem Ay {P:Program}{w:World}{K:Frag}{es:List Expr}{kt:Nat}{pt:Pos}{k1 k2:Bool}{a1 a2 z TI TO i1 i2:Addr}(D:ZApart z TI TO i1 i2)(m1:a1≠z/\a1≠TO/\a1≠i1)(m2:a2≠z/\a2≠TO/\a2≠i1/\a2≠i2):
  Turn P w K (.Tuple es kt pt) (No K k1 k2 a1 a2) [z,TI,TO,i1,i2] z (λi h=>IsZip h z TI TO .none/\IsPair h TI (.ref i1) (.ref i2)/\(∃a b,IsPair h TO a b)/\jZ k1 h i1 a1 i/\jZ k2 h i2 a2 i) where
 mem:=by simp
 obj:=λi h st b hb=>by
  obtain⟨hz,hI,⟨a,c,hO⟩,t1,t2⟩:=st;simp at hb;rcases hb with rfl|rfl|rfl|rfl|rfl
  ·exact⟨_,hz,λv z=>by cases z⟩
  ·exact⟨_,hI,λv z=>by cases z⟩
  ·exact⟨_,hO,λv z=>by cases z⟩
  ·exact t1.ob
  ·exact t2.ob
 keep:=λi h h' st k=>by
  obtain⟨hz,hI,⟨a,c,hO⟩,t1,t2⟩:=st;exact⟨k z (by simp) _ hz,k TI (by simp) _ hI,⟨a,c,k TO (by simp) _ hO⟩,t1.upon λo e=>k i1 (by simp) o e,t2.upon λo e=>k i2 (by simp) o e⟩
 item:=by
  intro X hP hw hK hc i ac s σ H E I hf st hg;subst hP hw hK;obtain⟨hz,hI,⟨a,c,hO⟩,t1,t2⟩:=st;obtain⟨xs,ys,x,y,q1,q2,hx,hy⟩:=hg;obtain⟨its,r1,p1,z1⟩:=q1.vals I;obtain⟨oG,r2,p2,z2⟩:=q2.vals I;obtain⟨u,hu,ru⟩:=r1.get hx;obtain⟨v,hv,rv⟩:=r2.get hy;have hT:s.TypeIs (.ref z) "zip":=⟨_,hz,rfl⟩;have fresh:H s.heap.objs.size=none:=I.hok.fresh (vT _);have lt:∀ {c o},s.heap.get? c=some o->c≠s.heap.objs.size:=λe=>vS (vX e);have l1:i1≠s.heap.objs.size:=by obtain⟨o,e,_⟩:=t1.ob;exact lt e
  have l2:i2≠s.heap.objs.size:=by obtain⟨o,e,_⟩:=t2.ob;exact lt e
  unfold pyNext;refine wX (wpAny_attempt (wpAny_callSpecial?_slot (name:=Str.ofString "__next__") hT PySem.F.slot_zip_next (wpAny_call_entry PySem.F.slot_zip_next hT PySem.F.entry_zip_next (sf D m1 m2 hz hI hO t1 t2 p1 p2 (by simpa using hu) (by simpa using hv) λh' b1 b2 b3 b4 b5 b6 bk=>wY ?_) (PySem.F.args_zip_next_1 _))));refine⟨_,rfl,wpAny_letOwnedTupleGo_zip (s:={ s with heap:=h' }) b1 λh2 c1 s2=>?_⟩;have C0:Heap.SameBut z h' h2:=s2;have kk:∀b o,b∉[z,TI,TO,i1,i2]->s.heap.get? b=some o->h2.get? b=some o:=λb o hb e=>
   C0.extBut _ _ (λq=>hb (by simp[q])) (bk b o (λq=>hb (by simp[q])) (λq=>hb (by simp[q])) (λq=>hb (by simp[q])) (λq=>hb (by simp[q])) e)
  have I1:Inv X ac σ H { s with heap:=h2 }:=mm (t':=s.toks) I hf kk;have zT:s.heap.objs.size≠z:=(lt hz).symm;have new:bF X.prog X.w (upd H s.heap.objs.size (.tup [x,y])) h2 s.heap.objs.size (.tup [x,y]):=⟨by show 2<=sizeLine;decide,[u,v],.cons ru (.cons rv .nil),⟨_,C0.extBut _ _ zT b5,rfl,_,rfl⟩⟩;refine⟨.ref s.heap.objs.size,upd H s.heap.objs.size (.tup [x,y]),?_,rfl,⟨_,x,y,rfl,fresh,rfl,λzs hq=>by rw[lV.inj I hq q1];exact hx,λzs hq=>by rw[lV.inj I hq q2];exact hy⟩,?_,λb hb=>?_⟩
  ·exact Ax (s:=s) (t':=s.toks) I hf kk (vT _) new
  ·exact⟨c1,C0.extBut _ _ D.tz (bk _ _ D.tz D.to D.ta D.tb hI),⟨_,_,C0.extBut _ _ D.oz b2⟩,b3.upon λo e=>C0.extBut _ _ D.az e,b4.upon λo e=>C0.extBut _ _ D.bz e⟩
  ·have ye:b≠s.heap.objs.size:=by
    simp at hb;rcases hb with rfl|rfl|rfl|rfl|rfl
    ·exact lt hz
    ·exact lt hI
    ·exact lt hO
    ·exact l1
    ·exact l2
   rw[aA ye];exact(hf b hb).1
 done:=by
  intro X hP hw hK hc i ac s σ H E I hf st hg;subst hP hw hK;obtain⟨hz,hI,⟨a,c,hO⟩,t1,t2⟩:=st;obtain⟨xs,ys,q1,q2,hl⟩:=hg;obtain⟨its,r1,p1,z1⟩:=q1.vals I;obtain⟨oG,r2,p2,z2⟩:=q2.vals I;have hT:s.TypeIs (.ref z) "zip":=⟨_,hz,rfl⟩;have n1:=r1.length;have n2:=r2.length;unfold pyNext;refine wX (wpAny_attempt (wpAny_callSpecial?_slot (name:=Str.ofString "__next__") hT PySem.F.slot_zip_next (wpAny_call_entry PySem.F.slot_zip_next hT PySem.F.entry_zip_next (xj (I.ok.hd hc) D m1 m2 hz hI hO t1 t2 p1 p2 (hl.imp (λq=>by simp;omega) λq=>by simp;omega) λh' x hk hX=>?_) (PySem.F.args_zip_next_1 _))));obtain⟨o,eo,co⟩:=hX;refine wX (wpAny_isInstance (T:="StopIteration") (b:=true) ⟨o,eo,co⟩ isSubtype_stop (wY ⟨rfl,?_⟩));exact mm (t':=s.toks) I hf λb o hb e=>hk b o (λq=>hb (by simp[q])) (λq=>hb (by simp[q])) (λq=>hb (by simp[q])) (λq=>hb (by simp[q])) e
 self:=λ_ _ _ _ _ st h=>wpAny_pyIter_zip st.1 h
section
variable {X:Cx}{a b e:Expr}{pos:Pos}{p:Pos}
theorem Fg:bootBuiltins "zip" = some (.type "zip"):=by decide +kernel
def Kn (K:Frag)(ta:TA):TI:=λσ H R=>ta σ H λvs H1=>∃(k1 k2:Bool)(l1 l2:Addr)(xs ys:List V),vs=[.ref l1,.ref l2]/\lV k1 K H1 l1 xs/\lV k2 K H1 l2 ys/\R (No K k1 k2 l1 l2) H1
theorem GZ {es:List Expr}{kt:Nat}{pt:Pos}{ta:TA}(hg:Gl X "zip")(hm:X.mg "zip" = none)(ha:PA X [a,b] ta)(hs:starEach [a,b] X.env=[(false,eval a X.env),(false,eval b X.env)]:=by rfl)(qm:starEach [b] X.env=[(false,eval b X.env)]:=by rfl):
  PI X (.Tuple es kt pt) (.Call (.Name "zip" p) [a,b] [] pos) (Kn X.K ta):=by
 intro ac s σ H R I h;refine Call_ (hU I hg hm Fg (PyProof.Rows.callWith_type1 (cb (ha pos ac s σ H _ I h) λus s1 ⟨vs,H1,I1,r1,q1⟩=>?_) (by rw[hs,qm]) (by rw[qm];rfl)));obtain⟨k1,k2,l1,l2,xs,ys,rfl,h1,h2,q⟩:=q1;obtain⟨u1,u2,rfl,Ov,Ow⟩:=r1.two;cases Ov
 cases Ow
 obtain⟨its,v1,p1,z1⟩:=h1.vals I1;obtain⟨oG,v2,p2,z2⟩:=h2.vals I1;have DS:=p1.lt;have EC:=p2.lt;refine xi p1 p2 λh' c1 c2 c3 c4 c5 ck=>?_;have D:ZApart (s1.heap.objs.size+4) (s1.heap.objs.size+2) (s1.heap.objs.size+3) s1.heap.objs.size (s1.heap.objs.size+1):=by
  constructor<;>(intro z;exact absurd z (by first|exact vS (Nat.add_lt_add_left (by decide) _)|exact Nat.ne_of_gt (Nat.add_lt_add_left (by decide) _)|exact vS (Nat.lt_add_of_pos_right (by decide))|exact Nat.ne_of_gt (Nat.lt_add_of_pos_right (by decide))))
 have nf:∀ {l:Addr}(n:Nat),l<s1.heap.objs.size->l≠s1.heap.objs.size+n:=λn hl=>vS (vQ hl (Nat.le_add_right _ n));refine wpAny_pyIter_zip c1 ⟨s1.heap.objs.size+4,[s1.heap.objs.size+4,s1.heap.objs.size+2,s1.heap.objs.size+3,s1.heap.objs.size,s1.heap.objs.size+1],_,_,H1,rfl,I1.kept (t':=s1.toks) ck,
  Ay D ⟨nf 4 DS,nf 3 DS,nf 0 DS⟩ ⟨nf 4 EC,nf 3 EC,nf 0 EC,nf 1 EC⟩,⟨c1,c2,⟨_,_,c3⟩,c4,c5⟩,λb hb=>?_,q⟩
 have zI:s1.heap.objs.size<=b:=by
  simp at hb;rcases hb with rfl|rfl|rfl|rfl|rfl
  ·exact Nat.le_add_right _ 4
  ·exact Nat.le_add_right _ 2
  ·exact Nat.le_add_right _ 3
  ·exact vT _
  ·exact Nat.le_add_right _ 1
 exact I1.fpOk zI (I1.hok.fresh zI)
noncomputable def fZ (xs ys:List D):List D:=List.zipWith (λx y=>.tup [x,y]) xs ys
@[simp] def y4 (fa fb:FE):FA:=λρ=>(fa ρ).bind λx=>(fb ρ).bind λy=>(j4 x.1).bind λxs=>(j4 y.1).map λys=>fZ xs ys
theorem xk {K:Frag}{B:Hp}{v:V}{d:D}{ds:List D}(h:Is K B v d)(e:j4 d=some ds):∃k a vs,v=.ref a/\lV k K B a vs/\IsL K B vs ds:=by
 cases h with
 |tup ht hl=>cases e;exact⟨false,_,_,rfl,ht,hl⟩
 |lst ht hl=>cases e;exact⟨true,_,_,rfl,ht,hl⟩
 |_=>cases e
theorem Ha {H s}(I:Inv X ac σ H s)(h1:lV k1 X.K N l1 vs)(i1:IsL X.K N vs ds)(h2:lV k2 X.K N l2 ws)(i2:IsL X.K N ws es):lS X.K (No X.K k1 k2 l1 l2) N (fZ ds es):=by
 intro i H' sm;have n1:=i1.length;have n2:=i2.length;refine⟨λd ed=>?_,λhl=>⟨vs,ws,h1.same sm,h2.same sm,?_⟩⟩
 ·unfold fZ at ed;rw[List.getElem?_zipWith]at ed;cases e1:ds[i]? with
  |none=>rw[e1]at ed;simp at ed
  |some x=>
   cases e2:es[i]? with
   |none=>rw[e1,e2]at ed;simp at ed
   |some y=>
    rw[e1,e2]at ed;simp at ed;subst ed;obtain⟨v,ev,iv⟩:=i1.get e1;obtain⟨w,ew,iw⟩:=i2.get e2;refine⟨⟨vs,ws,v,w,h1.same sm,h2.same sm,ev,ew⟩,λr H2 hy=>?_⟩;obtain⟨T,v',w',rfl,hT,rfl,f1,f2⟩:=hy;have e3:=f1 vs (h1.same sm);have e4:=f2 ws (h2.same sm);rw[ev]at e3;cases e3;rw[ew]at e4;cases e4;have xt:=Ext.laid (o:=.tup [v,w]) sm hT;exact⟨_,xt,.tup (gA.of av) (.cons (iv.mono xt.bn) (.cons (iw.mono xt.bn) .nil))⟩
 ·unfold fZ at hl;rw[List.length_zipWith]at hl;omega
theorem Az {es:List Expr}{kt:Nat}{pt:Pos}{fa fb:FE}(hm:X.mg "zip" = none)(ha:JE X a fa)(hb:JE X b fb)(hg:Gl X "zip":=by rfl)(hs:starEach [a,b] X.env=[(false,eval a X.env),(false,eval b X.env)]:=by rfl)(qm:starEach [b] X.env=[(false,eval b X.env)]:=by rfl):
  JI X (.Tuple es kt pt) (.Call (.Name "zip" p) [a,b] [] pos) (y4 fa fb):=by
 intro ac s σ H R I q;refine GZ hg hm (ae ha (ae hb aj qm) (by rw[hs,qm])) hs qm ac s σ H R I ?_;obtain⟨B,ρ,ds,sB,r,ee,q⟩:=q;obtain⟨x1,ex,ee⟩:=oX ee;obtain⟨y1,ey,ee⟩:=oX ee;obtain⟨xs,Ox,ee⟩:=oX ee;obtain⟨ys,Oy,ee⟩:=oY ee;subst ee;refine⟨B,ρ,[x1.1,y1.1],sB,r,by simp[ag,al,ex,ey],λvs H1 N1 xt i1=>?_⟩;cases i1 with
 |cons j1 j2=>
  cases j2 with
  |cons j2 j3=>
   cases j3
   obtain⟨k1,l1,us,rfl,s1,m1⟩:=xk j1 Ox;obtain⟨k2,l2,ws,rfl,s2,m2⟩:=xk j2 Oy;exact⟨k1,k2,l1,l2,us,ws,rfl,s1.same xt.nh,s2.same xt.nh,q _ H1 N1 xt (Ha I s1 m1 s2 m2)⟩
end
@[simp] noncomputable def gb:FS:=λ_=>none
section
variable {X:Cx}{pos:Pos}
theorem kn {st:Stmt}:JS X st gb:=λac s σ H E I q=>by
 obtain⟨B0,H0,ρ,r,_,e,_⟩:=q;cases e
end
inductive CRows (K:Frag)(P:Params):List DictEntry->List (Str×D)->Prop where
 |nil:CRows K P [] []
 |tup {x:Str}{t:Tok}{h:Int}{a:Addr}{its:Array Value}{n:Nat}{kW:Array (Option Value)}{ds:List D}{r:List DictEntry}{bE:List (Str×D)}(hh:h=PyData.keyHash P x)
   (l:K.lookup a=some ⟨.type "tuple",none,.seq its n,kW⟩) (f:(decide (its.size<=1000) && ij its.toList ds)=true) (tl:CRows K P r bE):CRows K P (⟨h,.str x t,.ref a⟩::r) ((x,.tup ds)::bE)
 |flat {x:Str}{t:Tok}{h:Int}{u:Value}{d:D}{r:List DictEntry}{bE:List (Str×D)}(hh:h=PyData.keyHash P x) (f:qF u d=true) (tl:CRows K P r bE):CRows K P (⟨h,.str x t,u⟩::r) ((x,d)::bE)
theorem CRows.lit {K:Frag}{P:Params}:∀ {es:List DictEntry}{bE:List (Str×D)},CRows K P es bE->PySem.W.KeysLit P es
 |_,_,.nil=>trivial
 |_,_,.tup hh _ _ tl=>⟨⟨_,_,rfl,hh⟩,tl.lit⟩
 |_,_,.flat hh _ tl=>⟨⟨_,_,rfl,hh⟩,tl.lit⟩
theorem CRows.find {K:Frag}{P:Params}(y:Str):∀ {es:List DictEntry}{bE:List (Str×D)},CRows K P es bE->match bE.lookup y with
  |none=>es.find? (λe=>Value.isStrOf y e.key)=none
  |some d=>∃e v,es.find? (λe=>Value.isStrOf y e.key)=some e/\aL v e.val/\∀B,Is K B v d
 |_,_,.nil=>rfl
 |_,_,.tup (x:=x) (t:=t) (a:=a) (ds:=ds) hh l f tl=>by
  by_cases e:y=x
  ·subst e;rw[List.lookup_cons_self];rw[vD]at f;obtain⟨vs,r,i⟩:=ik (K:=K) f.2;exact⟨_,.ref a,List.find?_cons_of_pos (by simp[Value.isStrOf]),rfl,λB=>.tup (.inr ⟨_,_,_,l,rfl,rfl,Nat.le_of_lt (Nat.lt_of_le_of_lt (of_decide_eq_true f.1) (by decide)),r⟩) (i B)⟩
  ·have ih:=tl.find y;rw[List.lookup_cons,beq_eq_false_iff_ne.mpr e];have nf:Value.isStrOf y (Value.str x t)=false:=by
    rw[Bool.eq_false_iff];intro z;obtain⟨t',q⟩:=Value.isStrOf_shape z;injection q with q1;exact e q1.symm
   simp only[List.find?_cons,nf];exact ih
 |_,_,.flat (x:=x) (t:=t) (u:=u) (d:=d) hh f tl=>by
  by_cases e:y=x
  ·subst e;rw[List.lookup_cons_self];obtain⟨v,r1,_⟩:=jm (K:=K) (B:=λ_=>none) f;refine⟨_,v,List.find?_cons_of_pos (by simp[Value.isStrOf]),r1,λB=>?_⟩;obtain⟨v',Ot,i'⟩:=jm (K:=K) (B:=B) f;have:v'=v:=by have z1:=r1.abs;rw[Ot.abs]at z1;exact vK z1
   subst this;exact i'
  ·have ih:=tl.find y;rw[List.lookup_cons,beq_eq_false_iff_ne.mpr e];have nf:Value.isStrOf y (Value.str x t)=false:=by
    rw[Bool.eq_false_iff];intro z;obtain⟨t',q⟩:=Value.isStrOf_shape z;injection q with q1;exact e q1.symm
   simp only[List.find?_cons,nf];exact ih
def ko (K:Frag)(P:Params)(a:Addr)(bE:List (Str×D)):Prop:=∃es n,K.lookup a=some ⟨.type "dict",none,.dict es n,#[]⟩/\CRows K P es.toList bE/\(a == sysModules)=false
theorem const_dict {K:Frag}{P:Params}{y:Str}{a:Addr}{es:Array DictEntry}{n:Nat}{bE:List (Str×D)}(e:PySem.W.nsIn K mainGlobals y=some (some (.ref a)))(l:K.lookup a=some ⟨.type "dict",none,.dict es n,#[]⟩)(r:CRows K P es.toList bE)(s:(a == sysModules)=false):
  ∃a,PySem.W.nsIn K mainGlobals y=some (some (.ref a))/\ko K P a bE:=⟨a,e,es,n,l,r,s⟩
section
variable {X:Cx}{a b e:Expr}{pos:Pos}{x:Str}{p:Pos}
theorem ko.map {ac:List (Addr×Obj)}{σ:St}{H:Hp}{s:Shared}{d:Addr}{bE:List (Str×D)}(I:Inv X ac σ H s)(h:ko X.K X.w.params d bE):∃f:Str->Option Value,s.heap.MapOf (strKind X.prog X.w) d f/\(d == sysModules)=false /\
  ∀y,match bE.lookup y with|none=>f y=none|some dd=>∃u v,f y=some u/\aL v u/\∀B,Is X.K B v dd:=by
 obtain⟨es,n,l,r,sm⟩:=h;refine⟨_,PySem.W.mapOf_K I.kIn l r.lit,sm,λy=>?_⟩;have:=r.find y;have ff:findBy Value.isStrOf es y=(es.toList.find? λe=>Value.isStrOf y e.key).map (·.val):=by
  unfold findBy;obtain⟨es⟩:=es;rw[List.find?_toArray]
 cases hl:bE.lookup y with
 |none=>rw[hl]at this;dsimp only at this ⊢;rw[ff,this];rfl
 |some dd=>
  rw[hl]at this;obtain⟨en,v,e1,e2,e3⟩:=this;exact⟨en.val,v,by rw[ff,e1];rfl,e2,e3⟩
@[simp] noncomputable def fz (bE:List (Str×D)):D->OB
 |.str y=>(bE.lookup y).map λd=>(d,false)
 |_=>none
@[simp] noncomputable def jM (bE:List (Str×D)):D->OB
 |.str y=>some (.bl (!(bE.lookup y).isSome),false)
 |_=>none
theorem mn (h:∃d,X.mg x=some (.ref d)/\ko X.K X.w.params d bE)(hb:JE X b f)(hg:Gl X x:=by rfl)(hd:(x == ("__debug__" : Str))=false:=by decide)(hs:mj b:=by intro _ _;rfl):JE X (.Subscript (.Name x p) b pos) (f1 (fz bE) f):=by
 obtain⟨d,hm,cd⟩:=h;have ix:zX X (λx y H Q=>∃z dd,x=.ref d/\y=.str z/\bE.lookup z=some dd/\∀v,(∀B,Is X.K B v dd)->Q v H):=by
  intro value slice ac s σ H x y v u Q I rx ry q hs;obtain⟨z,dd,rfl,rfl,el,q⟩:=q;cases rx
  obtain⟨t,rfl⟩:=ry;obtain⟨f,hM,sm,hf⟩:=cd.map I;have:=hf z;rw[el]at this;obtain⟨u,v,e1,e2,e3⟩:=this;exact tail_any hM.typeIs slot_dict_getitem.lookup (wpAny_getItem_of (strKind_is X.prog X.w z t) hM e1 ⟨v,H,I.tok _,e2,q v e3⟩) hs
 refine PE.to (zY ix (gt (v:=.ref d) hg hm rfl hd) hb hs) λσ H Q q=>?_;obtain⟨B,ρ,d',bb,sB,r,ee,q⟩:=q;obtain⟨x1,ex,ee⟩:=oX ee;refine⟨B,ρ,x1.1,x1.2,sB,r,ex,λv H1 N1 xt i1 _=>?_⟩;obtain⟨xd,xb⟩:=x1;cases i1<;>try (simp[fz]at ee;done)
 rename_i z _;simp only[fz]at ee;obtain⟨dd,e1,e2⟩:=oY ee;cases e2
 exact⟨z,_,rfl,rfl,e1,λv hv=>(q.into xt).one xt.nh (hv _)⟩
@[simp] noncomputable def gw:List D->OB
 |[.lst ds]=>some (.lst ds,true)
 |[.tup ds]=>some (.lst ds,true)
 |_=>none
@[simp] noncomputable def c7:List D->OB
 |[.lst ds]=>some (.tup ds,false)
 |[.tup ds]=>some (.tup ds,false)
 |_=>none
theorem A1:bN X (.type "list") (zG X.K gw):=by
 refine bN.to qx λxs H Q q=>?_;obtain⟨B,ds,d,bb,sB,i,ee,q⟩:=q;cases i with
 |nil=>simp[gw]at ee
 |cons i1 i2=>
  cases i2 with
  |cons _ _=>cases i1<;>simp[gw]at ee
  |nil=>
   cases i1<;>try (simp[gw]at ee;done)
   ·rename_i l0 vs es h hl;simp only[gw]at ee;cases ee
    refine⟨_,_,rfl,.inr (aZ sB h),λl hp=>?_⟩;have xt:=Ext.laid (o:=.lst vs) sB hp;exact q _ _ _ xt (.lst (fO.of av) (hl.mono xt.bn)) λ_=>⟨_,_,_,rfl,rfl,hp,av,hl.mono xt.bn⟩
   ·rename_i l0 vs es h hl;simp only[gw]at ee;cases ee
    refine⟨_,_,rfl,.inl (sB.seq h),λl hp=>?_⟩;have xt:=Ext.laid (o:=.lst vs) sB hp;exact q _ _ _ xt (.lst (fO.of av) (hl.mono xt.bn)) λ_=>⟨_,_,_,rfl,rfl,hp,av,hl.mono xt.bn⟩
theorem jo:bN X (.type "tuple") (zG X.K c7):=by
 refine bN.to o5 λxs H Q q=>?_;obtain⟨B,ds,d,bb,sB,i,ee,q⟩:=q;cases i with
 |nil=>simp[c7]at ee
 |cons i1 i2=>
  cases i2 with
  |cons _ _=>cases i1<;>simp[c7]at ee
  |nil=>
   cases i1<;>try (simp[c7]at ee;done)
   ·rename_i l0 vs es h hl;simp only[c7]at ee;cases ee
    exact⟨_,_,rfl,.inr ⟨aZ sB h,q.one sB (.tup h hl)⟩⟩
   ·rename_i l0 vs es h hl;simp only[c7]at ee;cases ee
    refine⟨_,_,rfl,.inl ⟨sB.seq h,λl hp=>?_⟩⟩;have xt:=Ext.laid (o:=.tup vs) sB hp;exact q _ _ _ xt (.tup (gA.of av) (hl.mono xt.bn)) (by simp)
end
section
variable {X:Cx}{a b e:Expr}{pos:Pos}{x:Str}{p:Pos}
@[simp] def A2 (i:Nat)(fk fv:FE):FS:=λρ=>match ρ[i]? with
 |some (some (.lst ds,true))=>(fv ρ).bind λv=>(fk ρ).bind λk=>match k.1 with
  |.int j=>(zW ds.length j).bind λn=>if b9 v.1=true then some (.nx (ρ.set i (some (.lst (ds.set n v.1),true))))else none
  |_=>none
 |_=>none
theorem Hb (hv:JE X e fv)(hk:JE X k fk)(hN:X.N[i]? = some y:=by rfl)(Oz:Cm X.env.scope y:=by first|exact Or.inl rfl|exact Or.inr (Or.inl rfl)|exact Or.inr (Or.inr rfl))(hd:(y == ("__debug__" : Str))=false:=by decide)
  (gH:(y == ("__classdict__" : Str))=false:=by decide)
  (ha:∀v,assign (.Subscript (.Name y py) k pt) X.env v=(do
   let ov ←holding [v] (eval (.Name y py) X.env)
   let iv ←holding [v,ov] (eval k X.env)
   standAt pt
   holding [v,ov,iv] (setItem ov iv v)
   release [v,ov,iv] []):=by intro _;rfl)
  (hs:swapsWithSole [.Subscript (.Name y py) k pt] e pos.line X.env=pure false:=by rfl) (hw:swappedStores [.Subscript (.Name y py) k pt] e X.env=pure none:=by rfl)
  (h1:(assignEach [.Subscript (.Name y py) k pt] X.env).map (·.2)=[assign (.Subscript (.Name y py) k pt) X.env]:=by rfl):JS X (.Assign [.Subscript (.Name y py) k pt] e pos) (A2 i fk fv):=by
 refine PS.to (Gr hv (Gq (dR hN Oz hd gH) hk Aa ha) hs hw h1) λE σ H q=>?_;obtain⟨B0,H0,ρ,r,⟨N,s⟩,ee,p⟩:=q;unfold A2 at ee;split at ee
 ·rename_i ds ei;obtain⟨v,ev,ee⟩:=oX ee;obtain⟨kk,ek,ee⟩:=oX ee;obtain⟨kd,kb⟩:=kk;cases kd with
  |int j=>
   dsimp only at ee;obtain⟨n,en,ee⟩:=oX ee;split at ee
   ·rename_i hn;cases ee
    refine⟨N,ρ,v.1,v.2,s.ext.nh,s.rep,ev,λv1 H1 N1 x1 i1 _=>?_⟩;have s1:=s.grow x1;obtain⟨l,vs,BZ,z,h1,h2,h3,h4⟩:=s1.owL i _ ei;cases z
    refine⟨_,h1,N1,ρ,_,_,s1.ext.nh,s1.rep,ek,λkv H2 N2 x2 i2 _=>?_⟩;cases i2
    have s2:=s1.grow x2;obtain⟨l',Mz,BZ,z,k1,k2,k3,k4⟩:=s2.owL i _ ei;cases z
    rw[h1]at k1;cases k1;exact⟨l,Mz,j,n,rfl,rfl,s2.ext.nh _ _ k2,by rw[k4.length];exact en,p σ _ ⟨_,s2.write ei h1 (IsL.set (s2.flat (i1.mono x2.bn) hn) n k4)⟩⟩
   ·cases ee
  |_=>cases ee
 ·cases ee
@[simp] def si (i:Nat)(f:FE):FS:=λρ=>match ρ[i]? with
 |some (some (.lst ds,true))=>(f ρ).bind λx=>match x.1 with
  |.lst es=>if x.2=true/\bR es=true/\ds.length+es.length<=sizeLine then some (.nx (ρ.set i (some (.lst (ds++es),true))))else none
  |_=>none
 |_=>none
theorem A3 (he:JE X e f)(hN:X.N[i]? = some y:=by rfl)(hv:Cm X.env.scope y:=by first|exact Or.inl rfl|exact Or.inr (Or.inl rfl)|exact Or.inr (Or.inr rfl))(hd:(y == ("__debug__" : Str))=false:=by decide)
  (gH:(y == ("__classdict__" : Str))=false:=by decide)
  (gl:attributeBase (.Name y py) "extend" X.env (eval (.Name y py) X.env)=eval (.Name y py) X.env:=by rfl)
  (om:((backTo bU (starEach [e] X.env)).all (λx=>!x.1) && (backToKw bU (keywordEach [] X.env)).all (λx=>x.1.isSome)
   && decide ([e].length+([]:List Keyword).length+(if([]:List Keyword).isEmpty then 0 else 1)<30))=true:=by rfl)
  (gm:(eW.endLine == bU.line)=true:=by rfl) (hs:starEach [e] X.env=[(false,eval e X.env)]:=by rfl) (EA:swapsWith (.Call (.Attribute (.Name y py) "extend" eW) [e] [] bU) none pos.line X.env=pure false:=by rfl):
  JS X (.Expr (.Call (.Attribute (.Name y py) "extend" eW) [e] [] bU) pos) (si i f):=by
 refine PS.to (wz (rC PySem.F.plainAttrs_list PySem.F.slot_list_extend PySem.F.type_list_extend yq (dR hN hv hd gH) (bI he dq hs) gl om gm hs rfl) EA) λE σ H q=>?_;obtain⟨B0,H0,ρ,r,⟨N,s⟩,ee,p⟩:=q;unfold si at ee;split at ee
 ·rename_i ds ei;obtain⟨v,ev,ee⟩:=oX ee;obtain⟨vd,vb⟩:=v;cases vd with
  |lst es=>
   dsimp only at ee;split at ee
   ·rename_i hc;cases ee
    obtain⟨l,vs,BZ,z,h1,h2,h3,h4⟩:=s.owL i _ ei;cases z
    refine⟨_,h1,.inl ⟨rfl,vs,fO.of (s.ext.nh _ _ h2)⟩,N,ρ,_,_,s.ext.nh,s.rep,ev,λv1 H1 N1 x1 i1 f1=>?_⟩;obtain⟨l2,ws,BS,rfl,z,g1,g2,g3⟩:=f1 hc.1;cases z
    have s1:=s.grow x1;obtain⟨l',Mz,BZ,z,k1,k2,_,k4⟩:=s1.owL i _ ei;cases z
    rw[h1]at k1;cases k1;exact⟨l,l2,Mz,ws,rfl,rfl,s1.ext.nh _ _ k2,x1.nh _ _ g2,by rw[k4.length,g3.length];exact hc.2.2,p σ _ ⟨_,s1.write ei h1 (k4.append (s1.flats g3 hc.2.1))⟩⟩
   ·cases ee
  |_=>cases ee
 ·cases ee
@[simp] noncomputable def y6:List D->OB
 |[.int i]=>some (.int i,false)
 |[.bl b]=>some (.int (if b then 1 else 0),false)
 |_=>none
theorem Fh:bN X (.type "int") (zG X.K y6):=by
 refine bN.to yn λxs H Q q=>?_;obtain⟨B,ds,d,bb,sB,i,ee,q⟩:=q;cases i with
 |nil=>simp[y6]at ee
 |cons i1 i2=>
  cases i2 with
  |cons _ _=>cases i1<;>simp[y6]at ee
  |nil=>
   cases i1<;>try (simp[y6]at ee;done)
   ·simp only[y6]at ee;cases ee
    exact .inr ⟨_,rfl,q.one sB (.int _)⟩
   ·simp only[y6]at ee;cases ee
    exact .inl ⟨_,rfl,q.one sB (.int _)⟩
end
open AutoSeq1 (wpAny_loadPart')
set_option maxRecDepth 100000
section
variable {X:Cx}{a b e:Expr}{pos:Pos}{p:Pos}
theorem sj:bootBuiltins "enumerate" = some (.type "enumerate"):=by decide +kernel
noncomputable def xl (ds:List D):List D:=ds.mapIdx λi d=>.tup [.int i,d]
end
end DL
namespace DL
open PySem PySem.Spec PyProof.Rows
theorem y7 (t:SetTable)(es:Array (Int×Value))(n:Nat):(relayAll t es n).2.1.led=t.led:=by
 unfold relayAll;split
 ·rename_i t' order h;unfold SetTable.relaid SetTable.laid at h;obtain⟨ow,_,h⟩:=oX h;cases h
  dsimp only;split<;>rfl
 ·rfl
theorem sk (t:SetTable)(es:Array (Int×Value))(n:Nat)(hp:t.plain=false):(relayAll t es n).2.1.plain=false:=by
 unfold relayAll;split
 ·rename_i t' order h;unfold SetTable.relaid SetTable.laid at h;obtain⟨ow,_,h⟩:=oX h;cases h
  dsimp only;split
  ·exact hp
  ·rfl
 ·rfl
theorem Dx (t:SetTable)(es:Array (Int×Value))(h:Int)(x:Value):(layNew t es h x).2.1.led=t.led:=by
 unfold layNew;split
 ·dsimp only[SetTable.put,SetTable.orStandIn];repeat' (first|rfl|split)
 ·rfl
structure TabT (w:World)(es:Array (Int×Value))(t:SetTable):Prop where
 fits:t.fits es.size=true
 led:t.led = !w.params.followText "set-order"
 plain:es.size≠0->t.plain=false
def gp (prog:Program)(w:World)(h:Heap)(a:Addr)(ts:List Str):Prop :=
 ∃o es ep t,h.get? a=some o/\o.ExactSet/\o.data=.set es ep t/\ElemsOf (PySem.strKind prog w) es.toList/\(es.toList.map (λe=>strOf e.2)).Perm ts/\ts.Nodup/\ts.length<scanBound/\TabT w es t
noncomputable def gD (ts:List Str)(x:Str):List Str:=if x∈ts then ts else ts++[x]
theorem A4 (ts:List Str)(x:Str):(gD ts x).length<=ts.length+1:=by unfold gD;split<;>simp
theorem sq (h:Value.isStrOf k v=true):strOf v=k:=by obtain⟨t,rfl⟩:=Value.isStrOf_shape h;rfl
section
variable {prog:Program}{w:World}{A:Around}{E:Value->Shared->Prop}{s:Shared}
theorem pi {es:Array (Int×Value)}{ts:List Str}(z6:ElemsOf (PySem.strKind prog w) es.toList)(hp:(es.toList.map (λe=>strOf e.2)).Perm ts)(k:Str):k∈ts ↔ ∃e∈es.toList,(PySem.strKind prog w).is k e.2=true:=by
 rw[←hp.mem_iff,List.mem_map];constructor
 ·rintro⟨e,he,rfl⟩;obtain⟨⟨k',hk,_⟩,_⟩:=z6 e he;have z7:Value.isStrOf k' e.2=true:=hk;refine⟨e,he,?_⟩;show Value.isStrOf (strOf e.2) e.2=true;rw[sq z7];exact z7
 ·rintro⟨e,he,hk⟩;exact⟨e,he,sq hk⟩
theorem pj {h:Heap}{a:Addr}{o:Obj}{es:Array (Int×Value)}{ep:Nat}{t:SetTable}(ho:h.get? a=some o)(hd:o.data=.set es ep t)(BS:Array (Int×Value))(t':SetTable):
  (h.update a (Obj.putSet BS t')).get? a=some { o with data:=.set BS (ep+1) t' }:=by
 have:=Heap.get?_update_self (Obj.putSet BS t') ho (by rw[putSet_of BS t' hd];rfl);rw[putSet_of BS t' hd]at this;exact this
theorem sr {g:Bool->Sem Unit}(hg:∀(b:Bool)(s₁:Shared)(Q':Unit->Shared->Prop),Q' () s₁->wpAny (model prog w) A (g b) Q' E s₁)
  {a:Addr}{o:Obj}{es:Array (Int×Value)}{ep:Nat}{t:SetTable}(ho:s.heap.get? a=some o) (Cc:o.ExactSet) (hd:o.data=.set es ep t)
  {kY:Array (Int×Value)}{t2:SetTable}{ts:List Str}(Cd:ElemsOf (PySem.strKind prog w) kY.toList) (Jf:(kY.toList.map (λe=>strOf e.2)).Perm ts) (nd:ts.Nodup)
  (ED:ts.length<scanBound) (R8:t2.fits kY.size=true) (NX:t2.led = !w.params.followText "set-order") (hpl:t2.plain=false) {tY:Bool}{R:Option Bool->Shared->Prop}
  (h:∀h',Heap.SameBut a s.heap h'->gp prog w h' a ts->R (some true) { s with heap:=h' }):
  wpAny (model prog w) A (do
    storeSet a kY t2
    if(!tY && t2.tooFull)=true then do
      g (relayAll t2 kY (SetTable.grown kY.size)).2.2
      storeSet a (relayAll t2 kY (SetTable.grown kY.size)).1 (relayAll t2 kY (SetTable.grown kY.size)).2.1
      pure (some true)
     else pure (some true)) R E s:=by
 have Qc:kY.size=ts.length:=by rw[←Jf.length_eq,vI,vG]
 refine wX (wpAny_storeSet_of ho hd ?_ (fits_of_scanBound (by rw[Qc];exact ED)));have O0:=pj ho hd kY t2;have LI:=vW s.heap a (Obj.putSet kY t2);split
 ·have hp:=relayAll_perm t2 kY (SetTable.grown kY.size);have z8:=relayAll_fits t2 kY (SetTable.grown kY.size);have zI:=y7 t2 kY (SetTable.grown kY.size);have LJ:=sk t2 kY (SetTable.grown kY.size) hpl;generalize hRl:relayAll t2 kY (SetTable.grown kY.size)=Rl at hp z8 zI LJ ⊢;obtain⟨M7,t3,Qd⟩:=Rl;dsimp only at hp z8 zI LJ ⊢;have O1:ElemsOf (PySem.strKind prog w) M7.toList:=Cd.perm hp;have hsz:M7.size=kY.size:=by rw[←vG,hp.length_eq,vG]
  refine wX (hg _ _ _ ?_);refine wX (wpAny_storeSet_of O0 rfl ?_ (fits_of_scanBound (by rw[hsz,Qc];exact ED)));have Jd:=pj O0 rfl M7 t3;exact wY (h _ (LI.trans (vW _ a _)) ⟨_,M7,_,t3,Jd,Cc,rfl,O1,(hp.map _).trans Jf,nd,ED,z8,zI.trans NX,λ_=>LJ⟩)
 ·exact wY (h _ LI ⟨_,kY,_,t2,O0,Cc,rfl,Cd,Jf,nd,ED,R8,NX,λ_=>hpl⟩)
theorem uC {a:Addr}{ts:List Str}{k:Str}{tk:Tok}{Q:Bool->Shared->Prop}(hS:gp prog w s.heap a ts)(LK:ts.length+1<scanBound)
  (h:∀b h',Heap.SameBut a s.heap h'->gp prog w h' a (gD ts k)->Q b { s with heap:=h' }):
  wpAny (model prog w) A (setAddHashed a (.str k tk) ((PySem.strKind prog w).hash k)) Q E s:=by
 have hS0:=hS;obtain⟨o,es,ep,t,ho,Cc,hd,z6,rf,nd,hb,hf,EE,hpl⟩:=hS;have E6:(PySem.strKind prog w).is k (.str k tk)=true:=strKind_is prog w k tk;have sz:es.size=ts.length:=by rw[←rf.length_eq,vI,vG]
 unfold setAddHashed setAddHashedIn;refine wpAny_holding (wX (wpAny_setState_of ho hd hf ?_));dsimp only;rw[byScan_of (x:=.str k tk) rfl (by rw[sz];exact hb) z6];simp only[↓reduceIte];unfold setAddByScan;refine wX ?_;refine wX (wpAny_rule ?_);refine wX (wpAny_setScan_of E6 ho hd hf z6 ?_);cases hr:List.findIdx? (λe=>(PySem.strKind prog w).is k e.2) es.toList with
 |some j=>
  dsimp only;obtain⟨hj,R9,_⟩:=List.findIdx?_eq_some_iff_getElem.mp hr;have hm:k∈ts:=(pi z6 rf k).mpr ⟨es.toList[j],List.getElem_mem hj,R9⟩;refine wY (wY ?_);have e:gD ts k=ts:=by unfold gD;rw[if_pos hm]
  exact h false s.heap (Heap.SameBut.refl a s.heap) (by rw[e];exact hS0)
 |none=>
  dsimp only;have hm:k∉ts:=λz=>by
   obtain⟨e,he,hp⟩:=(pi z6 rf k).mp z;have:=List.findIdx?_eq_none_iff.mp hr e he;rw[hp]at this;exact Bool.noConfusion this
  have ea:gD ts k=ts++[k]:=by unfold gD;rw[if_neg hm]
  have RA:∀(b:Bool){s₁:Shared}{Q':Unit->Shared->Prop},Q' () s₁->wpAny (model prog w) A (match b with|true=>rule "set.scan.the-table-gave-way" | false=>pure ()) Q' E s₁ :=
   λb s₁ Q' hq=>by cases b<;>first|exact wY hq|exact wpAny_rule hq
  have gn:=layNew_perm t es ((PySem.strKind prog w).hash k) (.str k tk);have yf:=layNew_fits t es ((PySem.strKind prog w).hash k) (.str k tk);have FH:=Dx t es ((PySem.strKind prog w).hash k) (.str k tk);generalize hL:layNew t es ((PySem.strKind prog w).hash k) (.str k tk)=L at gn yf FH ⊢;obtain⟨kY,t1,tY,O2⟩:=L;dsimp only at gn yf FH ⊢;rw[Array.toList_push]at gn;have Cd:ElemsOf (PySem.strKind prog w) kY.toList:=(z6.push E6 rfl).perm gn;have Jf:(kY.toList.map (λe=>strOf e.2)).Perm (ts++[k]):=(gn.map _).trans (by rw[List.map_append];exact rf.append_right _);have Qe:(ts++[k]).Nodup:=by
   rw[List.nodup_append];refine⟨nd,by simp,λx hx y hy=>?_⟩;rw[List.mem_singleton]at hy;subst hy;exact λz=>hm (z ▸ hx)
  have ED:(ts++[k]).length<scanBound:=by rw[vA];exact LK
  refine wX (RA _ ?_);have LL:∀h',Heap.SameBut a s.heap h'->gp prog w h' a (ts++[k])->Q true { s with heap:=h' }:=λh' hsb Ce=>h true h' hsb (by rw[ea];exact Ce);split
  ·refine wX ?_;rw[hashByValue_scannable 8 (x:=.str k tk) rfl];refine wY ?_;refine sr ?_ ho Cc hd Cd Jf Qe ED ?_ ?_ ?_ ?_
   ·intro b s₁ Q' hq;cases b<;>first|exact wY hq|exact wpAny_rule hq
   ·exact SetTable.fits_plain_off yf
   ·exact FH.trans EE
   ·rfl
   ·intro h' hsb Ce;dsimp only;exact wY (LL h' hsb Ce)
  ·rename_i hnp;refine wX (wY ?_);simp only[↓reduceIte];refine sr ?_ ho Cc hd Cd Jf Qe ED yf (FH.trans EE) (by simpa using hnp) ?_
   ·intro b s₁ Q' hq;cases b<;>first|exact wY hq|exact wpAny_rule hq
   ·intro h' hsb Ce;dsimp only;exact wY (LL h' hsb Ce)
end
noncomputable def eY (ss:List Str):List Str:=ss.foldl gD []
theorem uD (h:ts.Nodup)(x:Str):(gD ts x).Nodup:=by
 unfold gD;split
 ·exact h
 ·rename_i hm;rw[List.nodup_append];refine⟨h,by simp,λy hy z hz=>?_⟩;rw[List.mem_singleton]at hz;subst hz;exact λe=>hm (e ▸ hy)
theorem mP:y∈gD ts x↔y∈ts∨y=x:=by
 unfold gD;split
 ·rename_i hm;exact⟨.inl,λz=>z.elim id λe=>e ▸ hm⟩
 ·simp
theorem qG (ss:List Str):∀ts:List Str,(ss.foldl gD ts).length<=ts.length+ss.length:=by
 induction ss with
 |nil=>intro ts;simp
 |cons x r ih=>intro ts;rw[List.foldl_cons];have:=ih (gD ts x);have:=A4 ts x;simp only[vE];omega
theorem mQ (ss:List Str):(eY ss).length<=ss.length:=by have:=qG ss [];simpa [eY]using this
theorem y8 (ss:List Str)(x:Str):eY (ss++[x])=gD (eY ss) x:=by unfold eY;rw[List.foldl_append];rfl
theorem StrsAre.at:∀ {vs:List Value}{ss:List Str},StrsAre vs ss->∀(i:Nat)(v:Value),vs[i]? = some v->∃x t,v=.str x t/\ss[i]? = some x
 |_,_,.nil,i,v,h=>by simp at h
 |_,_,.cons x t hr,0,v,h=>by simp at h;exact⟨x,t,h.symm,rfl⟩
 |_,_,.cons x t hr,i+1,v,h=>by
  simp only[List.getElem?_cons_succ]at h;exact StrsAre.at hr i v h
theorem gp.at (x:gp prog w h a ts)(k:∀o,h.get? a=some o->h'.get? a=some o):gp prog w h' a ts:=by
 obtain⟨o,es,ep,t,ho,r⟩:=x;exact⟨o,es,ep,t,k o ho,r⟩
section
variable {prog:Program}{w:World}{A:Around}{R:Result->Shared->Prop}{I:Addr}{fp wr:List Addr}{G:Array GenState->Array GenState->Prop}{n:Nat}{P:Nat->Value->Prop}{St:Nat->Shared->Prop}
theorem qH (W:WalksS prog w A.in1 I fp wr G n P St)(S:Addr)(yg:S∉fp)(ss:List Str)(hn:ss.length=n)
  (Ix:∀i v,P i v->∃x t,v=.str x t/\ss[i]? = some x) (hb:n+1<scanBound):
  ∀(k i:Nat)(s:Shared),n - i=k->i<=n->St i s->gp prog w s.heap S (eY (ss.take i)) ->
   (∀s',Moved (S::wr) G s s'->gp prog w s'.heap S (eY ss)->R (.ok (.ret .none)) s') ->
   codeAny (model prog w) A (.builtin "set.update.loop" ⟨[.ref S,.ref I],[]⟩) R s:=by
 have Qf:S∉wr:=λh=>yg (W.sub _ h);have Cb:∀b∈wr,b∈S::wr:=λb hb=>mZ _ hb;intro k;induction k with
 |zero=>
  intro i s hk hi kU hS hR;have wo:i=n:=by omega
  subst wo;refine codeAny_builtin PyProof.Rows.F.entry_set_update_loop ?_;rw[Around.under_plainId PyProof.Rows.F.plain_set_update_loop _];show wpAny _ A.in1 (pyNext (.ref I)>>=_) _ _ s;refine wX (W.done s _ _ kU λs' hm=>?_);show wpAny _ A.in1 (ret Value.none) _ _ s';refine wY (hR s' (hm.mono Cb) ?_);rw[List.take_of_length_le (by omega)]at hS;exact hS.at λo e=>hm.heap S _ Qf e
 |succ k ih=>
  intro i s hk hi kU hS hR;have gs:i<n:=by omega
  refine codeAny_builtin PyProof.Rows.F.entry_set_update_loop ?_;rw[Around.under_plainId PyProof.Rows.F.plain_set_update_loop _];show wpAny _ A.in1 (pyNext (.ref I)>>=_) _ _ s;refine wX (W.item i s _ _ gs kU λv s' hP hst' hm=>?_);obtain⟨x,t,rfl,hx⟩:=Ix i v hP;have Ce:gp prog w s'.heap S (eY (ss.take i)):=hS.at λo e=>hm.heap S _ Qf e;show wpAny _ A.in1 (holding [Value.str x t] (setAdd S (.str x t))>>=_) _ _ s';refine wX (wpAny_holding ?_);unfold setAdd;refine wpAny_holding ?_;refine wX ((PySem.strKind prog w).pyHash (k:=x) (strKind_is prog w x t) ?_);have hl:(eY (ss.take i)).length+1<scanBound:=by have:=mQ (ss.take i);rw[List.length_take]at this;omega
  refine uC (s:={ s' with toks:=s'.toks+1 }) Ce hl λb h' hsb FI=>?_;have M8:gp prog w h' S (eY (ss.take (i+1))):=by
   rw[List.take_add_one,hx,Option.toList_some,y8];exact FI
  refine wY ⟨plainId_quiet PyProof.Rows.F.plain_set_update_loop _,ih (i+1) _ (by omega) gs (W.frame _ s' _ _ hst' (Nat.le_succ _) λb hb o e=>?_) M8 λLo hm'' hS''=>?_⟩
  ·rw[hsb.2 b (λh:b=S=>yg (by rw[←h];exact hb))];exact e
  ·refine hR Lo (Moved.trans W.gtrans ((hm.mono Cb).then_heap (Nat.le_succ _) λb o hb e=>?_) hm'') hS'';rw[hsb.2 b (λh:b=S=>hb (by rw[h];exact mX))];exact e
end
section
variable {prog:Program}{w:World}{A:Around}{E:Value->Shared->Prop}{s:Shared}
noncomputable abbrev dF (w:World):Obj:={ cls:=.type "set",dict:=none,data:=.set #[] 0 (.fresh 0 0 (!w.params.followText "set-order")) }
theorem su (a:Value) 
  (h:Q₁ (.ref s.heap.objs.size) { s with heap:=s.heap.push (dF w) }):
  codeAny (model prog w) A (.call (.builtin "set.__new__") ⟨[.type "set",a],[]⟩) (wants Q₁ E) s:=by
 refine codeAny_of_tree ?_;show wpAny _ A.in1 (do checkBuiltinCall "set.__new__" ⟨[.type "set",a],[]⟩;again (.builtin "set.__new__" ⟨[.type "set",a],[]⟩)) _ _ s;refine wX (wpAny_of_eq (PySem.F.newCall_set_1 a) (wY ⟨plainId_quiet PySem.F.plain_set_new _,codeAny_builtin PySem.F.entry_set_new ?_⟩));rw[Around.under_plainId PySem.F.plain_set_new _];unfold Builtin.«set.__new__» Builtin.Frozenset.newClass;have Cb:=sub_set_self;obtain⟨hp,g,d,tk,os⟩:=s;dsimp only;wp_walk;refine wpAny_askSetting (wY ?_);dsimp only;simp only[newObj];refine wX (wpAny_alloc (wY ?_));exact wY h
set_option maxHeartbeats 3200000 in
theorem mR 
  (hh:A.handled=none) (hl:s.heap.IsList l aw) (hi:StrsAre aw.toList ss) (hb:aw.size+1<scanBound)
  (h:∀(h':Heap)(tk:Nat),gp prog w h' s.heap.objs.size (eY ss) ->
   (∀b o,b<s.heap.objs.size->s.heap.get? b=some o->h'.get? b=some o)->Q (.ref s.heap.objs.size) { s with heap:=h',toks:=tk }):
  wpAny (model prog w) A (call (.type "set") [.ref l]) Q E s:=by
 obtain⟨c,tl,RB⟩:=PySem.F.called_set.mro;have Qg:=PySem.F.called_set.made;have Cb:=PySem.F.called_set.sub;refine wpAny_call (codeAny_of_tree ?_);show wpAny _ _ (callAny (.type "set") _) _ _ _;refine wY ⟨Code.quiet_builtin _ (by decide +kernel),codeAny_builtin PySem.F.entry_type_call ?_⟩;rw[Around.under_plain (weight_type_call_type "set" [.ref l] []) rfl];have h1:=PySem.F.called_set.notType;have h2:=PySem.F.called_set.canCreate;have SX:=PySem.F.typeCall_set_1 (.ref l);have bC:ss.length=aw.size:=by have:=hi.strs;rw[←this,vI,vG]
 repeat (any_goals (first|assumption|wp_step))
 refine codeAny_mono (su (.ref l) (E:=E) (Q₁:=λobj s₁=>obj=.ref s.heap.objs.size/\s₁={ s with heap:=s.heap.push (dF w) }) ⟨rfl,rfl⟩) λr s₁ hr=>?_;cases r with
 |error e=>exact hr
 |ok fl=>
  cases fl with
  |ret obj=>
   obtain⟨rfl,rfl⟩:=hr;have hS:(s.heap.push (dF w)).get? s.heap.objs.size=some (dF w):=vY _ rfl;have hT:Shared.TypeIs { s with heap:=s.heap.push (dF w) } (.ref s.heap.objs.size) "set":=⟨_,hS,rfl⟩;have SY:=PySem.F.called_set.init.lookup;have Ta:=PySem.F.called_set.init.bind (.ref s.heap.objs.size);repeat (any_goals (first|assumption|wp_step))
   refine codeAny_mono (codeAny_call_builtin (R:=wants (λr s₂=>r=.none/\∃h' tk,s₂={ s with heap:=h',toks:=tk } /\
     gp prog w h' s.heap.objs.size (eY ss) /\
     (∀b o,b<s.heap.objs.size->s.heap.get? b=some o->h'.get? b=some o)) E) PySem.F.called_set.init.plain PySem.F.entry_set_init (check_set_init_1 hT ?_)) λr₂ s₂ hr₂=>?_
   ·obtain⟨ol,Qh,Qi,nl,O4⟩:=hl;obtain⟨RC,LM,Qj,Iy⟩:=ol;simp only at Qi O4;subst Qi;subst O4;have O5:(s.heap.push (dF w)).get? l=some { cls:=.type "list",dict:=LM,data:=.seq aw nl,slots:=Iy }:=vZ _ Qh;have RD:=PySem.F.sub_list_set;have RF:=PySem.F.sub_list_frozenset;have ye:(Value.type "list" == Value.type "dict")=false:=by decide
    have FH:(s.heap.push (dF w)).IsList l aw:=⟨_,O5,rfl,nl,rfl⟩;unfold Builtin.«set.__init__» noKeywords Builtin.Frozenset.updateFrom;generalize hPI:pyIter=PI;wp_walk;subst hPI;refine wpAny_pyIter_list FH ?_;refine wX (wpAny_runValue ?_);have Qk:l<s.heap.objs.size:=vX Qh;have RG:A.in1.in1.in1.handled=none:=by simp[hh]
    have O6:l≠(s.heap.push (dF w)).objs.size:=by
     rw[Heap.size_push];exact vS (Nat.lt_succ_of_lt Qk)
    have yg:s.heap.objs.size∉[(s.heap.push (dF w)).objs.size,l]:=by
     rw[Heap.size_push];simp only[List.mem_cons,List.mem_singleton,List.not_mem_nil,or_false,not_or];exact⟨vS (Nat.lt_succ_self _),Nat.ne_of_gt Qk⟩
    have Ix:∀(i:Nat)(v:Value),aw[i]? = some v->∃x t,v=.str x t/\ss[i]? = some x:=λi v hv=>
     StrsAre.at hi i v (by rw[Array.getElem?_toList];exact hv)
    refine qH ((Walks.list RG _ l O6 aw).toS) s.heap.objs.size
     yg ss bC Ix hb (aw.size - 0) 0 _ (by omega) (uM _)
     ⟨⟨_,vY _ rfl,rfl,rfl⟩,(FH.push _)⟩ ?hS0 ?hR
    case hS0=>
     have EF:((s.heap.push (dF w)).push { cls:=.type "list_iterator",data:=.fields #[.ref l,.int 0 0] }).get? s.heap.objs.size
       = some (dF w):=vZ _ hS
     exact⟨_,#[],0,_,EF,⟨rfl,rfl,rfl⟩,rfl,λe he=>by simp at he,List.Perm.refl _,List.nodup_nil,(by show(0:Nat)<scanBound;decide),rfl,rfl,λz=>absurd rfl z⟩
    case hR=>
     intro s' hm Ce
     obtain⟨h',g',d',EG,NW⟩:=s'
     have eg:g'=s.gens:=hm.gens
     have ed:d'=s.drawn:=hm.drawn
     have eo:NW=s.os:=hm.os
     subst eg;subst ed;subst eo
     show wpAny _ _ _ _ _ _
     refine wY ?_
     show wpAny _ _ (ret Value.none) _ _ _
     refine wY ⟨rfl,h',EG,rfl,Ce,λb o hb e=>?_⟩
     have ED:b≠s.heap.objs.size:=vS hb
     have RH:b≠(s.heap.push (dF w)).objs.size:=by
      rw[Heap.size_push];exact vS (Nat.lt_succ_of_lt hb)
     exact hm.heap b o (by simp only[List.mem_cons,List.mem_singleton,List.not_mem_nil,or_false,not_or];exact⟨ED,RH⟩) (vZ _ (vZ _ e))
   ·cases r₂ with
    |error e=>exact hr₂
    |ok fl₂=>
     cases fl₂ with
     |ret r=>
      obtain⟨rfl,h',tk,rfl,Ce,z7⟩:=hr₂;repeat (any_goals (first|assumption|wp_step))
      exact h _ _ Ce z7
     |_=>exact hr₂.elim
  |_=>exact hr.elim
end
open Sem (wp)
section
variable {M:Model}{A:Around}{E:Value->Shared->Prop}{s:Shared}
theorem Dy (hn:n≠0)(h:∀k d,k<n->Q k { s with drawn:=d }):wpAny M A (choose src n) Q E s:=by
 intro Γ p hG;unfold choose;rw[Sem.wp_choose];refine⟨hn,?_⟩;have:=h _ (s.drawn.bump src) (Nat.mod_lt (M.w.draws src (s.drawn.get src)) (Nat.pos_of_ne_zero hn));simpa using this
end
theorem kq {α:Type}:∀(l:List α)(i:Nat),i<l.length->(l.eraseIdx i).length=l.length - 1:=λl i h=>by rw[List.length_eraseIdx,if_pos h]
theorem jN {α:Type}:∀(l:List α)(i:Nat)(x:α),l[i]? = some x->(x::l.eraseIdx i).Perm l
 |[],i,x,h=>by simp at h
 |a::l,0,x,h=>by simp at h;subst h;exact List.Perm.refl _
 |a::l,i+1,x,h=>by
  rw[List.eraseIdx_cons_succ];simp only[List.getElem?_cons_succ]at h;exact(List.Perm.swap a x _).trans ((jN l i x h).cons a)
theorem xm {α:Type}:∀(n:Nat)(xs:List α)(s:Shared)(Q:List α->Shared->Prop),xs.length=n->(∀ys d,ys.Perm xs->Q ys { s with drawn:=d })->wpAny M A (drawOrder n xs) Q E s
 |0,xs,s,Q,hl,h=>by
  have:xs=[]:=List.eq_nil_of_length_eq_zero hl;subst this;exact wY (h [] s.drawn (List.Perm.refl _))
 |n+1,[],s,Q,hl,h=>by simp at hl
 |n+1,x::r,s,Q,hl,h=>by
  show wpAny M A (choose .order (x::r).length>>=λi=>match (x::r)[i]? with
   |some x'=>(do return x'::(←drawOrder n ((x::r).eraseIdx i)))
   |none=>unsupported "internal:drawOrder") Q E s
  refine wX (Dy (by simp) λk d hk=>?_);obtain⟨y,hy⟩:∃y,(x::r)[k]? = some y:=⟨_,vU hk⟩;rw[hy];refine wX (xm n _ _ _ (by rw[kq _ _ hk,hl];rfl) λys d' hp=>wY (h _ _ ((hp.cons y).trans (jN _ _ _ hy))))
theorem xn {α:Type}(next:Nat->Nat):∀(fuel k:Nat)(left:List α)(out:Array α),left.length=fuel->(pickOrder.go next fuel k left out).toList.Perm (out.toList++left)
 |0,k,left,out,hl=>by
  have:left=[]:=List.eq_nil_of_length_eq_zero hl;subst this;unfold pickOrder.go;simp
 |fuel+1,k,left,out,hl=>by
  unfold pickOrder.go;have hk:next k % left.length<left.length:=Nat.mod_lt _ (by omega);obtain⟨y,hy⟩:∃y,left[next k % left.length]? = some y:=⟨_,vU hk⟩;rw[hy];dsimp only;refine(xn next fuel (k+1) _ _ (by rw[kq _ _ hk];omega)).trans ?_;rw[Array.toList_push,List.append_assoc];exact(jN _ _ _ hy).append_left _
theorem y9 {α:Type}(next:Nat->Nat)(xs:Array α):(pickOrder next xs).toList.Perm xs.toList:=by
 have:=xn next xs.size 0 xs.toList #[] (by simp);simpa [pickOrder]using this
theorem bj:Slot "set_iterator" "__next__" "set_iterator.__next__" :=
 .of (owner:="set_iterator") (n:="__next__") (by rw[typeLookup_type,builtinLookup_eq_fast];kernel_rfl) (by decide +kernel) (by decide +kernel) (by decide +kernel)
  (by first|exact .inl (by decide +kernel)|exact .inr (by decide +kernel)) (by rw[isSubtype_type];kernel_rfl)
theorem dX:entryFor table "set_iterator.__next__" = some Builtin.«set_iterator.__next__»:=entryFor_of_tree (by kernel_rfl)
theorem eN (a:Value):argsOk "set_iterator.__next__" ⟨[a],[]⟩:=by unfold argsOk;kernel_rfl
theorem j6:Slot "set_iterator" "__iter__" "set_iterator.__iter__" :=
 .of (owner:="set_iterator") (n:="__iter__") (by rw[typeLookup_type,builtinLookup_eq_fast];kernel_rfl) (by decide +kernel) (by decide +kernel) (by decide +kernel)
  (by first|exact .inl (by decide +kernel)|exact .inr (by decide +kernel)) (by rw[isSubtype_type];kernel_rfl)
theorem mS:entryFor table "set_iterator.__iter__" = some Builtin.«dict_keyiterator.__iter__» :=
 entryFor_alias (id':="dict_keyiterator.__iter__") (by kernel_rfl) rfl (by decide +kernel) (by kernel_rfl)
theorem o7 (a:Value):argsOk "set_iterator.__iter__" ⟨[a],[]⟩:=by unfold argsOk;kernel_rfl
theorem lW:entryFor table "set.__iter__" = some Builtin.«frozenset.__iter__» :=
 entryFor_alias (id':="frozenset.__iter__") (by kernel_rfl) rfl (by decide +kernel) (by kernel_rfl)
noncomputable abbrev jO (O7:Value)(i:Nat)(S:Addr)(n ep:Nat):Obj:={ cls:=.type "set_iterator",data:=.fields #[O7,.int i 0,.ref S,.int n 0,.int ep 0] }
section
variable {prog:Program}{w:World}{A:Around}{E:Value->Shared->Prop}{s:Shared}{it S:Addr}{i ep:Nat}{o:Obj}{es:Array (Int×Value)}{t:SetTable}
theorem db (ho:s.heap.get? it=some (jO O7 i S n ep)):s.TypeIs (.ref it) "set_iterator":=⟨_,ho,rfl⟩
theorem qI {k k':Nat}{x:Value}{Q:Option Value->Shared->Prop}(ho:s.heap.get? it=some (jO (.int k 0) i S es.size ep))
  (hS:s.heap.get? S=some o) (hd:o.data=.set es ep t) (hf:t.fits es.size=true)
  (hN:∀(A':Around)(E':Value->Shared->Prop)(Q':Option (Value×Nat)->Shared->Prop),Q' (some (x,k')) s->wpAny (model prog w) A' (setNext S k i ep) Q' E' s)
  (hQ:∀h',h'.get? it=some (jO (.int k' 0) (i+1) S es.size ep)->Heap.SameBut it s.heap h'->Q (some x) { s with heap:=h' }):
  wpAny (model prog w) A (pyNext (.ref it)) Q E s:=by
 unfold pyNext;refine wX (wpAny_attempt (wpAny_callSpecial?_slot (name:=Str.ofString "__next__") (db ho) bj
  (wpAny_call_entry bj (db ho) dX ?_ (eN _))))
 show wpAny _ _ (fieldsOf (.ref it)>>=_) _ _ s;refine wX (wpAny_fieldsOf ho rfl ?_);show wpAny _ _ (setEntries S>>=_) _ _ s;refine wX (wpAny_setEntries_of hS hd hf ?_);rw[if_neg (by simp)];show wpAny _ _ (setNext S _ _ _>>=_) _ _ s;simp only[Int.toNat_natCast];refine wX (hN _ _ _ ?_);dsimp only;refine wX (wpAny_setField_rec ho (by simp) λh1 e1 b1=>?_);refine wX (wpAny_setField_rec e1 (by simp) λh2 e2 b2=>?_);exact wY ⟨x,rfl,wY (hQ h2 (by simpa [rawInt,jO]using e2) (b1.trans b2))⟩
theorem qJ {k:Nat}{Q:Option Value->Shared->Prop}(hh:A.handled=none)(ho:s.heap.get? it=some (jO (.int k 0) i S es.size ep))
  (hS:s.heap.get? S=some o) (hd:o.data=.set es ep t) (hf:t.fits es.size=true)
  (hN:∀(A':Around)(E':Value->Shared->Prop)(Q':Option (Value×Nat)->Shared->Prop),Q' none s->wpAny (model prog w) A' (setNext S k i ep) Q' E' s)
  (hQ:∀h',Heap.ExtBut it s.heap h'->Q none { s with heap:=h' }):
  wpAny (model prog w) A (pyNext (.ref it)) Q E s:=by
 unfold pyNext;refine wX (wpAny_attempt (wpAny_callSpecial?_slot (name:=Str.ofString "__next__") (db ho) bj
  (wpAny_call_entry bj (db ho) dX ?_ (eN _))))
 show wpAny _ _ (fieldsOf (.ref it)>>=_) _ _ s;refine wX (wpAny_fieldsOf ho rfl ?_);show wpAny _ _ (setEntries S>>=_) _ _ s;refine wX (wpAny_setEntries_of hS hd hf ?_);rw[if_neg (by simp)];show wpAny _ _ (setNext S _ _ _>>=_) _ _ s;simp only[Int.toNat_natCast];refine wX (hN _ _ _ ?_);dsimp only;refine wX (wpAny_setField_rec ho (by simp) λh1 e1 b1=>?_);refine wX ?_;simp only[newExc,newTuple];refine wX (wpAny_newObj_type ?_ (by size_fits));refine wX (m:=firstArgMember _ _) (wpAny_of_eq (a:=Value.none) (by first|rfl|(simp only[firstArgMember];rfl)) ?_);refine wpAny_newObj_type ?_ (by size_fits);simp only[raiseNew];refine wX (wpAny_handled ?_);rw[show A.in1.handled=none from hh];refine wX (wY (wpAny_throw ?_));refine wX (wpAny_isInstance (T:="StopIteration") (b:=true) ⟨_,vY _ rfl,rfl⟩ isSubtype_stop ?_);exact wY (hQ _ ((b1.extBut.push _).push _))
theorem o8 {T:Addr}{pl:List Nat}{p:Nat}{x:Int×Value}{nt:Nat}{Q:Option Value->Shared->Prop}(ho:s.heap.get? it=some (jO (.ref T) i S es.size ep))
  (hT:s.heap.get? T=some (seqObj "tuple" (pl.map λ(p:Nat)=>Value.int p 0).toArray nt))
  (hS:s.heap.get? S=some o) (hd:o.data=.set es ep t) (hf:t.fits es.size=true) (hp:pl[i]? = some p) (hx:es[p]? = some x)
  (hQ:∀h',h'.get? it=some (jO (.ref T) (i+1) S es.size ep)->Heap.SameBut it s.heap h'->Q (some x.2) { s with heap:=h' }):
  wpAny (model prog w) A (pyNext (.ref it)) Q E s:=by
 unfold pyNext;refine wX (wpAny_attempt (wpAny_callSpecial?_slot (name:=Str.ofString "__next__") (db ho) bj
  (wpAny_call_entry bj (db ho) dX ?_ (eN _))))
 show wpAny _ _ (fieldsOf (.ref it)>>=_) _ _ s;refine wX (wpAny_fieldsOf ho rfl ?_);show wpAny _ _ (setEntries S>>=_) _ _ s;refine wX (wpAny_setEntries_of hS hd hf ?_);rw[if_neg (by simp)];show wpAny _ _ (seqItems? (.ref T)>>=_) _ _ s;refine wX (wpAny_seqItems hT rfl ?_);have e1:(pl.map λ(p:Nat)=>Value.int p 0).toArray[(i:Int).toNat]? = some (.int p 0):=by simp[hp]
 dsimp only;rw[e1];dsimp only;have e2:wpAny (model prog w) A.in1 (setNextDrawn S (p:Int).toNat (ep:Int).toNat) (λy s'=>y=x.2/\s'=s) (λ_ _=>False) s:=by
  unfold setNextDrawn;refine wX (wpAny_setState_of hS hd hf ?_);dsimp only;rw[if_neg (by simp)];simp only[Int.toNat_natCast,hx];exact wY ⟨rfl,rfl⟩
 refine wX (wpAny_mono e2 (λy s' hy=>?_) λ_ _ z=>z.elim);obtain⟨rfl,rfl⟩:=hy;refine wX (wpAny_setField_rec ho (by simp) λh1 e1 b1=>?_);exact wY ⟨_,rfl,wY (hQ h1 (by simpa [rawInt,jO]using e1) b1)⟩
theorem o9 {T:Addr}{pl:List Nat}{nt:Nat}{Q:Option Value->Shared->Prop}(hh:A.handled=none)(ho:s.heap.get? it=some (jO (.ref T) i S es.size ep))
  (hT:s.heap.get? T=some (seqObj "tuple" (pl.map λ(p:Nat)=>Value.int p 0).toArray nt))
  (hS:s.heap.get? S=some o) (hd:o.data=.set es ep t) (hf:t.fits es.size=true) (hp:pl[i]? = none)
  (hQ:∀h',Heap.ExtBut it s.heap h'->Q none { s with heap:=h' }):
  wpAny (model prog w) A (pyNext (.ref it)) Q E s:=by
 unfold pyNext;refine wX (wpAny_attempt (wpAny_callSpecial?_slot (name:=Str.ofString "__next__") (db ho) bj
  (wpAny_call_entry bj (db ho) dX ?_ (eN _))))
 show wpAny _ _ (fieldsOf (.ref it)>>=_) _ _ s;refine wX (wpAny_fieldsOf ho rfl ?_);show wpAny _ _ (setEntries S>>=_) _ _ s;refine wX (wpAny_setEntries_of hS hd hf ?_);rw[if_neg (by simp)];show wpAny _ _ (seqItems? (.ref T)>>=_) _ _ s;refine wX (wpAny_seqItems hT rfl ?_);have e1:(pl.map λ(p:Nat)=>Value.int p 0).toArray[(i:Int).toNat]? = none:=by simpa using hp
 dsimp only;rw[e1];dsimp only;refine wX (wpAny_setField_rec ho (by simp) λh0 e0 b0=>?_);refine wX (wpAny_setField_rec e0 (by simp) λh1 e1 b1=>?_);refine wX ?_;simp only[newExc,newTuple];refine wX (wpAny_newObj_type ?_ (by size_fits));refine wX (m:=firstArgMember _ _) (wpAny_of_eq (a:=Value.none) (by first|rfl|(simp only[firstArgMember];rfl)) ?_);refine wpAny_newObj_type ?_ (by size_fits);simp only[raiseNew];refine wX (wpAny_handled ?_);rw[show A.in1.handled=none from hh];refine wX (wY (wpAny_throw ?_));refine wX (wpAny_isInstance (T:="StopIteration") (b:=true) ⟨_,vY _ rfl,rfl⟩ isSubtype_stop ?_);exact wY (hQ _ (((b0.trans b1).extBut.push _).push _))
theorem sw (ho:s.heap.get? it=some (jO O7 i S n ep))(h:Q (.ref it) s):wpAny (model prog w) A (pyIter (.ref it)) Q E s:=by
 refine wpAny_pyIter_slot (db ho) j6 (wpAny_call_entry j6 (db ho) mS ?_ (o7 _));show wpAny _ _ (ret (.ref it)) _ _ s;exact wY ⟨_,rfl,"set_iterator",_,db ho,bj.lookup,h⟩
end
section
variable {prog:Program}{w:World}{A:Around}{E:Value->Shared->Prop}{s:Shared}{it S:Addr}{i k ep:Nat}{o:Obj}{es:Array (Int×Value)}{t:SetTable}
theorem pq (hS:s.heap.get? S=some o)(hd:o.data=.set es ep t)(hf:t.fits es.size=true)(hb:w.params.followText "set-order" = true)
  (h:Q (((pickOrder (w.params.setOrder S ep) es)[i]?).map λe=>(e.2,k)) s):wpAny (model prog w) A (setNext S k i ep) Q E s:=by
 unfold setNext;refine wX (wpAny_setState_of hS hd hf ?_);dsimp only;unfold setsByText;refine wX (wX (wpAny_askSetting (wY ?_)));show wpAny _ _ (if w.params.followText "set-order" = true then _ else _) _ _ _;rw[if_pos hb,if_neg (by simp)];unfold setWalk setsByText;refine wX (wX (wpAny_setState_of hS hd hf ?_));dsimp only;refine wX (wX (wpAny_askSetting (wY ?_)));show wpAny _ _ (if w.params.followText "set-order" = true then _ else _) _ _ _;rw[if_pos hb];refine wX (wpAny_askSetting (wY ?_));exact wY h
theorem mT (hS:s.heap.get? S=some o)(hd:o.data=.set es ep t)(hf:t.fits es.size=true)(hb:w.params.followText "set-order" = false)(hl:t.led=true)(hz:es.size<=1)
  (h:Q (match es[SetTable.below t.place k]?,t.place[SetTable.below t.place k]? with
   |some (_,x),some j=>some (x,j+1)
   |_,_=>none) s):wpAny (model prog w) A (setNext S k i ep) Q E s:=by
 unfold setNext;refine wX (wpAny_setState_of hS hd hf ?_);dsimp only;unfold setsByText;refine wX (wX (wpAny_askSetting (wY ?_)));show wpAny _ _ (if w.params.followText "set-order" = true then _ else _) _ _ _;rw[if_neg (by rw[hb];simp)];show wpAny _ _ (if(!t.plain && decide (es.size > 1))=true then _ else _) _ _ _;rw[if_neg (by rw[decide_eq_false (by omega)];simp)];show wpAny _ _ ((if(!t.led && !es.isEmpty)=true then unsupported "set:maker-not-led" else pure ())>>=_) _ _ _;rw[hl,if_neg (by simp)];refine wX (wY ?_);exact wY h
theorem pv (hh:A.handled=none)(hd:o.data=.set es ep t)(hf:t.fits es.size=true)(ye:S≠it)(vs:List Value)(hv:vs.length=es.size)(sl:Nat->Nat)
  (hN:∀i x,vs[i]? = some x->∀(A':Around)(E':Value->Shared->Prop)(s:Shared)(Q':Option (Value×Nat)->Shared->Prop),s.heap.get? S=some o->Q' (some (x,sl (i+1))) s->wpAny (model prog w) A' (setNext S (sl i) i ep) Q' E' s)
  (hE:∀(A':Around)(E':Value->Shared->Prop)(s:Shared)(Q':Option (Value×Nat)->Shared->Prop),s.heap.get? S=some o->Q' none s->wpAny (model prog w) A' (setNext S (sl es.size) es.size ep) Q' E' s):
  Walks prog w A it [it,S] [it] es.size (λi v=>vs[i]? = some v) (λi h=>h.get? it=some (jO (.int (sl i) 0) i S es.size ep)/\h.get? S=some o) where
 sub:=λb hb=>by simp at hb;simp[hb]
 frame:=λ_ _ _ st hk=>⟨hk it (by simp) _ st.1,hk S (by simp) _ st.2⟩
 item:=λi s Q E hi st hQ=>by
  obtain⟨x,hx⟩:∃x,vs[i]? = some x:=⟨_,vU (by omega)⟩;refine qI st.1 st.2 hd hf (λA' E' Q' q=>hN i x hx A' E' s Q' st.2 q) λh' h1 h2=>?_;exact hQ x h' s.toks hx ⟨h1,h2.extBut S _ ye st.2⟩ λb u hb e=>h2.extBut b u (λz=>hb (by simp[z])) e
 done:=λs Q E st hQ=>qJ hh st.1 st.2 hd hf (λA' E' Q' q=>hE A' E' s Q' st.2 q) λh' h1=>hQ h' s.toks λb u hb e=>h1 b u (λz=>hb (by simp[z])) e
 self:=λ_ _ _ _ st hQ=>sw st.1 hQ
theorem uE {T:Addr}{pl:List Nat}{nt:Nat}(hh:A.handled=none)(hd:o.data=.set es ep t)(hf:t.fits es.size=true)(ye:S≠it)(RI:T≠it)(hp:pl.Perm (List.range es.size)):
  Walks prog w A it [it,S,T] [it] es.size (λi v=>(pl.map λp=>(es.getD p (0,.none)).2)[i]? = some v)
   (λi h=>h.get? it=some (jO (.ref T) i S es.size ep)/\h.get? S=some o/\h.get? T=some (seqObj "tuple" (pl.map λ(p:Nat)=>Value.int p 0).toArray nt)) where
 sub:=λb hb=>by simp at hb;simp[hb]
 frame:=λ_ _ _ st hk=>⟨hk it (by simp) _ st.1,hk S (by simp) _ st.2.1,hk T (by simp) _ st.2.2⟩
 item:=λi s Q E hi st hQ=>by
  have bC:pl.length=es.size:=by rw[hp.length_eq,List.length_range]
  obtain⟨p,hx⟩:∃p,pl[i]? = some p:=⟨_,vU (by omega)⟩;have RJ:p<es.size:=List.mem_range.mp (hp.mem_iff.mp (List.mem_of_getElem? hx));have he:es[p]? = some (es.getD p (0,.none)):=by rw[Array.getD_eq_getD_getElem?,Array.getElem?_eq_getElem RJ];rfl
  refine o8 st.1 st.2.2 st.2.1 hd hf hx he λh' h1 h2=>?_;exact hQ _ h' s.toks (by simp[hx]) ⟨h1,h2.extBut S _ ye st.2.1,h2.extBut T _ RI st.2.2⟩ λb u hb e=>h2.extBut b u (λz=>hb (by simp[z])) e
 done:=λs Q E st hQ=>by
  have bC:pl.length=es.size:=by rw[hp.length_eq,List.length_range]
  exact o9 hh st.1 st.2.2 st.2.1 hd hf (List.getElem?_eq_none (by omega)) λh' h1=>hQ h' s.toks λb u hb e=>h1 b u (λz=>hb (by simp[z])) e
 self:=λ_ _ _ _ st hQ=>sw st.1 hQ
end
theorem uF {α:Type}(es:Array α)(d:α):(List.range es.size).map (λp=>es.getD p d)=es.toList:=by
 apply List.ext_getElem?;intro i;by_cases h:i<es.size
 ·simp[h,Array.getD_eq_getD_getElem?]
 ·simp[h]
section
variable {prog:Program}{w:World}{A:Around}{E:Value->Shared->Prop}{s:Shared}
theorem px (h:xs=#[j]):SetTable.below xs k=if j<k then 1 else 0:=by
 subst h;by_cases h:j<k
 ·simp[SetTable.below,SetTable.below.go,h]
 ·simp[SetTable.below,SetTable.below.go,h]
theorem A5 {S:Addr}{ts:List Str}{Q:Value->Shared->Prop}(hS:gp prog w s.heap S ts)
  (hQ:∀(h':Heap)(d:Drawn)(it:Addr)(vs:List Value)(fp:List Addr)(St:Nat->Heap->Prop),(∀A',A'.handled=none->Walks prog w A' it fp [it] ts.length (λi v=>vs[i]? = some v) St)->St 0 h' ->
   (∀b u,s.heap.get? b=some u->h'.get? b=some u)->s.heap.objs.size<=it->(∀b∈fp,b=S∨s.heap.objs.size<=b)->vs.length=ts.length->(vs.map strOf).Perm ts->(∀v∈vs,∃x t,v=.str x t) ->
   Q (.ref it) { s with heap:=h',drawn:=d }):wpAny (model prog w) A (pyIter (.ref S)) Q E s:=by
 obtain⟨o,es,ep,t,ho,Cc,hd,z6,hp,nd,hb,hf,EE,hpl⟩:=hS;have sz:es.size=ts.length:=by rw[←hp.length_eq,vI,vG]
 have Iz:S<s.heap.objs.size:=vX ho;have Ql:s.TypeIs (.ref S) "set":=⟨_,ho,Cc.1⟩;have Cf:∀e∈es.toList,∃x t,e.2=.str x t:=λe he=>by
  obtain⟨⟨k,hk,_⟩,_⟩:=z6 e he;obtain⟨t,q⟩:=Value.isStrOf_shape (show Value.isStrOf k e.2=true from hk);exact⟨k,t,q⟩
 refine wpAny_pyIter_slot Ql PySem.F.slot_set_iter (wpAny_call_entry PySem.F.slot_set_iter Ql lW ?_ (PySem.F.args_set_iter_1 _));show wpAny _ _ (Builtin.Frozenset.sizeOf S>>=_) _ _ s;unfold Builtin.Frozenset.sizeOf;refine wX (wX (wpAny_setEntries_of ho hd hf (wY ?_)));unfold setDrawn setsByText;refine wX (wX (wpAny_setState_of ho hd hf ?_));dsimp only;refine wX (wX (wpAny_askSetting (wY (wY ?_))));show wpAny _ _ (if(!w.params.followText "set-order" && (!t.plain && decide (es.size > 1)))=true then _ else _) _ _ _;have I0:(es.toList.map (·.2)).map strOf=es.toList.map (λe=>strOf e.2):=by rw[uP];rfl
 by_cases FJ:w.params.followText "set-order" = true
 ·rw[if_neg (by rw[FJ];simp)];refine wX (wY ?_);refine wX (wpAny_setEpoch_of ho hd hf ?_);have pp:=y9 (w.params.setOrder S ep) es;have bC:((pickOrder (w.params.setOrder S ep) es).toList.map (·.2)).length=es.size:=by rw[vI,pp.length_eq,vG]
  refine wX (wpAny_newObj_type (wY ⟨_,rfl,"set_iterator",_,⟨_,vY _ rfl,rfl⟩,bj.lookup,?_⟩));refine hQ _ s.drawn s.heap.objs.size ((pickOrder (w.params.setOrder S ep) es).toList.map (·.2)) [s.heap.objs.size,S] (λi h=>h.get? s.heap.objs.size=some (jO (.int ((λ_=>0:Nat->Nat) i:Nat) 0) i S es.size ep)/\h.get? S=some o) (λA' hA=>?_) ?_ (λb u e=>vZ _ e) (vT _) (λb hb=>?_) (bC.trans sz) ?_ ?_
  ·rw[←sz];exact pv hA hd hf (vS Iz) _ bC (λ_=>0) (λi x hx A' E' s Q' h1 h2=>pq h1 hd hf FJ (by
    rw[vB,Array.getElem?_toList]at hx;obtain⟨e,he,rfl⟩:=oY hx;rw[he];exact h2)) (λA' E' s Q' h1 h2=>pq h1 hd hf FJ (by
    rw[Array.getElem?_eq_none (by rw[←vG,pp.length_eq,vG];exact vT _)];exact h2))
  ·exact⟨vY _ rfl,vZ _ ho⟩
  ·simp only[List.mem_cons,List.not_mem_nil,or_false]at hb;rcases hb with rfl|rfl
   ·exact .inr (vT _)
   ·exact .inl rfl
  ·refine List.Perm.trans ?_ hp;rw[←I0];exact(pp.map _).map _
  ·intro v hv;obtain⟨e,he,rfl⟩:=vO hv;exact Cf e (pp.mem_iff.mp he)
 ·rw[Bool.not_eq_true]at FJ;have hl:t.led=true:=by rw[EE,FJ];rfl
  by_cases h1:es.size<=1
  ·rw[if_neg (by rw[decide_eq_false (by omega)];simp)];refine wX (wY ?_);refine wX (wpAny_setEpoch_of ho hd hf ?_);refine wX (wpAny_newObj_type (wY ⟨_,rfl,"set_iterator",_,⟨_,vY _ rfl,rfl⟩,bj.lookup,?_⟩));have Tc:t.place.size=es.size:=by
    simp only[SetTable.fits,vD,beq_iff_eq,decide_eq_true_eq]at hf;exact hf.1
   refine hQ _ s.drawn s.heap.objs.size (es.toList.map (·.2)) [s.heap.objs.size,S] (λi h=>h.get? s.heap.objs.size=some (jO (.int ((λi=>if i=0 then 0 else t.place.getD 0 0+1:Nat->Nat) i:Nat) 0) i S es.size ep)/\h.get? S=some o) (λA' hA=>?_) ?_ (λb u e=>vZ _ e) (vT _) (λb hb=>?_) (by rw[vI,vG,sz]) (by rw[I0];exact hp) ?_
   ·rw[←sz];refine pv hA hd hf (vS Iz) _ (by simp) (λi=>if i=0 then 0 else t.place.getD 0 0+1) (λi x hx A' E' s Q' q1 q2=>mT q1 hd hf FJ hl h1 ?_) (λA' E' s Q' q1 q2=>mT q1 hd hf FJ hl h1 ?_)
    ·have hi:i<es.size:=by have:=(vV hx).1;simpa using this
     have RK:i=0:=by omega
     subst RK;obtain⟨j,hj⟩:∃j,t.place=#[j]:=Array.size_eq_one_iff.mp (by omega);rw[if_pos rfl,px hj,if_neg (by omega)];rw[vB,Array.getElem?_toList]at hx;obtain⟨e,he,rfl⟩:=oY hx;rw[he];simp only[hj]at q2 ⊢;simpa using q2
    ·by_cases h0:es.size=0
     ·have O8:t.place=#[]:=Array.eq_empty_of_size_eq_zero (by omega);have RM:es=#[]:=Array.eq_empty_of_size_eq_zero h0;rw[O8,RM];simpa using q2
     ·obtain⟨j,hj⟩:∃j,t.place=#[j]:=Array.size_eq_one_iff.mp (by omega);rw[if_neg h0,px hj];have:t.place.getD 0 0=j:=by rw[hj];rfl
      rw[this,if_pos (by omega),Array.getElem?_eq_none (by omega)];exact q2
   ·exact⟨vY _ rfl,vZ _ ho⟩
   ·simp only[List.mem_cons,List.not_mem_nil,or_false]at hb;rcases hb with rfl|rfl
    ·exact .inr (vT _)
    ·exact .inl rfl
   ·intro v hv;obtain⟨e,he,rfl⟩:=vO hv;exact Cf e he
  ·have O8:t.plain=false:=hpl (by omega);rw[if_pos (by rw[FJ,O8,decide_eq_true (by omega)];rfl)];refine wX (xm es.size (List.range es.size) _ _ (by simp) λpl d pp=>?_);refine wX (wpAny_newTuple ?_ (by rw[vI,pp.length_eq,List.length_range,sz];exact fits_of_scanBound hb));refine wX (wpAny_setEpoch_of (vZ _ ho) hd hf ?_);refine wX (wpAny_newObj_type (wY ⟨_,rfl,"set_iterator",_,⟨_,vY _ rfl,rfl⟩,bj.lookup,?_⟩));have hsz:(s.heap.push (seqObj "tuple" (pl.map λ(p:Nat)=>Value.int p 0).toArray 0)).objs.size=s.heap.objs.size+1:=size_push' _ _;have gn:((pl.map λp=>(es.getD p (0,.none)).2)).Perm (es.toList.map (·.2)):=by
    have:=(pp.map λp=>es.getD p (0,Value.none)).map (·.2);rw[uF]at this;rw[uP]at this;exact this
   refine hQ _ d _ (pl.map λp=>(es.getD p (0,.none)).2) [(s.heap.push (seqObj "tuple" (pl.map λ(p:Nat)=>Value.int p 0).toArray 0)).objs.size,S,s.heap.objs.size] (λi h=>h.get? (s.heap.push (seqObj "tuple" (pl.map λ(p:Nat)=>Value.int p 0).toArray 0)).objs.size=some (jO (.ref s.heap.objs.size) i S es.size ep)/\h.get? S=some o/\h.get? s.heap.objs.size=some (seqObj "tuple" (pl.map λ(p:Nat)=>Value.int p 0).toArray 0)) (λA' hA=>?_) ?_ (λb u e=>vZ _ (vZ _ e)) ?_ (λb hb=>?_) ?_ ?_ ?_
   ·rw[←sz];exact uE (nt:=0) hA hd hf (by show S≠(s.heap.push _).objs.size;rw[size_push'];exact vS (Nat.lt_succ_of_lt Iz)) (by show s.heap.objs.size≠(s.heap.push _).objs.size;rw[size_push'];exact vS (Nat.lt_succ_self _)) pp
   ·exact⟨vY _ rfl,vZ _ (vZ _ ho),vZ _ (vY _ rfl)⟩
   ·show s.heap.objs.size<=(s.heap.push _).objs.size;rw[size_push'];omega
   ·simp only[List.mem_cons,List.not_mem_nil,or_false]at hb;rcases hb with rfl|rfl|rfl
    ·refine .inr ?_;show s.heap.objs.size<=(s.heap.push _).objs.size;rw[size_push'];omega
    ·exact .inl rfl
    ·exact .inr (vT _)
   ·rw[gn.length_eq,vI,vG,sz]
   ·exact((gn.map strOf).trans (by rw[I0])).trans hp
   ·intro v hv;obtain⟨e,he,rfl⟩:=vO (gn.mem_iff.mp hv);exact Cf e he
end
theorem yA (h:ItemsOf (λi v=>vs[i]? = some v) gZ vs.length):gZ.toList=vs:=by
 apply List.ext_getElem?;intro i;by_cases hi:i<gZ.size
 ·have e:gZ[i]? = some gZ[i]:=Array.getElem?_eq_getElem hi;rw[Array.getElem?_toList,e,h.2 i _ e]
 ·rw[List.getElem?_eq_none (by rw[vG];omega),List.getElem?_eq_none (by rw[←h.1];omega)]
section
variable {prog:Program}{w:World}{A:Around}{E:Value->Shared->Prop}{s:Shared}
theorem sx (hh:A.handled=none)(hS:gp prog w s.heap S ts)
  (hQ:∀s' vs,(∀b u,s.heap.get? b=some u->s'.heap.get? b=some u)->s'.gens=s.gens->s'.os=s.os->vs.length=ts.length->(vs.map strOf).Perm ts->(∀v∈vs,∃x t,v=.str x t)->Q vs s'):
  wpAny (model prog w) A (collect (.ref S)) Q E s:=by
 have Cw:∀(s1:Shared),gp prog w s1.heap S ts->s1.TypeIs (.ref S) "set":=λs1 h=>by
  obtain⟨o,_,_,_,ho,Cc,_⟩:=h;exact⟨o,ho,Cc.1⟩
 have gs:S<s.heap.objs.size:=by obtain⟨o,_,_,_,ho,_⟩:=hS;exact vX ho
 have LN:ts.length<scanBound:=by obtain⟨_,_,_,_,_,_,_,_,_,_,h,_⟩:=hS;exact h
 unfold collect;refine wX (wpAny_runValue (codeAny_builtin PySem.F.entry_proto_collect ?_));rw[Around.under_plainId PySem.F.plain_proto_collect _];show wpAny _ A.in1 (newList []>>=λl=>again (.builtin "list.__iadd__" ⟨[l,.ref S],[]⟩)) _ _ s;refine wX (wpAny_newObj_type ?_);refine wY ⟨plainId_quiet PySem.F.plain_list_iadd _,codeAny_builtin PySem.F.entry_list_iadd ?_⟩;rw[Around.under_plainId PySem.F.plain_list_iadd _];show wpAny _ A.in1 (Builtin.List.listExtendWith (.ref s.heap.objs.size) (.ref S) (.ref s.heap.objs.size)) _ _ _;unfold Builtin.List.listExtendWith;have O9:gp prog w (s.heap.push { cls:=.type "list",data:=.seq ([]:List Value).toArray }) S ts:=hS.at λo e=>vZ _ e;refine wX (wpAny_typeOf (Cw _ O9) ?_);have Qm:s.heap.objs.size≠S:=Nat.ne_of_gt gs;have h1:Builtin.List.listSameRef (.ref s.heap.objs.size) (.ref S)=false:=by simp[Builtin.List.listSameRef,Qm]
 have h2:(Value.type "set" == Value.type "list")=false:=by decide
 have h3:(Value.type "set" == Value.type "tuple")=false:=by decide
 simp only[h1,h2,h3,Bool.or_false,uW,if_false];refine wX (A5 (s:={ s with heap:=s.heap.push { cls:=.type "list",data:=.seq ([]:List Value).toArray } }) O9 λh' d it vs fp St W kU hk M9 hfp Iu gn Ca=>?_);have FI:gp prog w h' S ts:=O9.at λo e=>hk _ _ e;refine wX (wpAny_holding ?_);unfold Builtin.List.listLengthHint;refine wX (wpAny_specialOf (Cw _ FI) PySem.F.slot_set_len.lookup ?_);wp_delta;refine wX (wpAny_isInstance (Cw _ FI) sub_set_self ?_);show wpAny _ A.in1 (typeOf (Value.ref S)>>=_) _ _ _;refine wX (wpAny_typeOf (Cw _ FI) ?_);refine wY ?_;rw[if_pos (by decide)];refine wX (wpAny_rule ?_);refine wX ?_;have LP:(s.heap.push { cls:=.type "list",data:=.seq ([]:List Value).toArray }).objs.size=s.heap.objs.size+1:=size_push' _ _;have Qn:h'.get? s.heap.objs.size=some { cls:=.type "list",data:=.seq ([]:List Value).toArray }:=hk _ _ (vY _ rfl);show wpAny _ A.in1 (updateSeq s.heap.objs.size (·.push .none)>>=λ_=>updateSeq s.heap.objs.size (·.pop)) _ _ _;refine wX (wpAny_updateSeq Qn rfl ?_);have Qo:=Heap.get?_update_self (Obj.mapSeq (·.push Value.none)) Qn rfl;refine wpAny_updateSeq Qo rfl ?_;have RN:=Heap.get?_update_self (Obj.mapSeq (·.pop)) Qo rfl;have yg:s.heap.objs.size∉fp:=λhm=>by
  rcases hfp _ hm with z|z
  ·exact Qm z
  ·rw[LP]at z;exact absurd z (Nat.not_succ_le_self _)
 have LQ:∀b u,b≠s.heap.objs.size->h'.get? b=some u ->
   ((h'.update s.heap.objs.size (Obj.mapSeq (·.push Value.none))).update s.heap.objs.size (Obj.mapSeq (·.pop))).get? b=some u :=
  λb u hb e=>(Heap.get?_update_other _ _ (Ne.symm hb)).trans ((Heap.get?_update_other _ _ (Ne.symm hb)).trans e)
 have W0:=W A.in1 hh;refine wY ⟨plainId_quiet PySem.F.plain_extend_loop _,codeAny_extend_loopS W0.toS (fits_of_scanBound LN) _ yg _ ts.length 0 _ _ _ rfl (uM _)
  (W0.frame 0 _ _ kU λb hb u e=>LQ b u (λz=>yg (z ▸ hb)) e) RN (ItemsOf.nil _) λs' acc' c' hm hL' hacc=>?_⟩
 show wpAny _ A (load s.heap.objs.size>>=_) _ _ s';refine wX (wpAny_load hL' ?_);rw[←Iu]at hacc;refine wY ?_;show Q acc'.toList s';rw[yA hacc];refine hQ s' vs (λb u e=>hm.heap b u (λhb=>?_) (LQ b u (vS (vX e)) (hk _ _ (vZ _ e)))) hm.gens hm.os Iu gn Ca;have hl:=vX e;simp only[List.mem_cons,List.not_mem_nil,or_false]at hb;rcases hb with rfl|rfl
 ·exact absurd hl (Nat.lt_irrefl _)
 ·rw[LP]at M9;exact absurd (vQ hl (Nat.le_of_succ_le M9)) (Nat.lt_irrefl _)
theorem uG (hh:A.handled=none)(hS:gp prog w s.heap S ts)(FK:ts.length<64)
  (hQ:∀(s1:Shared)(h':Heap)(a:Addr)(out:Array Value)(n:Nat)(EH:List Str),(∀b u,s.heap.get? b=some u->s1.heap.get? b=some u)->s1.os=s.os->s1.gens=s.gens->(∀b u,s1.heap.get? b=some u->h'.get? b=some u)->s1.heap.objs.size<=a->h'.get? a=some (seqObj "list" out n) ->
   StrsAre out.toList EH->EH.Perm ts->sortedS EH=true->Q (.ref a) { s1 with heap:=h' }):
  wpAny (model prog w) A (call (.builtin "sorted") [.ref S]) Q E s:=by
 refine Calls.call_function_entry kind_sorted plain_sorted entry_sorted (args_sorted1 _) ?_;unfold Builtin.«sorted»;refine wX (m:=checkCount "sorted" 1 1 _) (wY ?_);refine wX (sx (A:=A.in1) (by exact hh) hS λs1 vs hk hg E7 Iu gn Ca=>?_);have kU:StrsAre vs (vs.map strOf):=strsAre_map vs Ca;refine wX (wpAny_newList ?_ (by rw[Iu,sizeLine_eq];omega));have Ll:(s1.heap.push (seqObj "list" vs.toArray 0)).get? s1.heap.objs.size=some (seqObj "list" vs.toArray 0):=vY _ rfl;show wpAny _ _ _ _ _ { s1 with heap:=s1.heap.push (seqObj "list" vs.toArray 0) };refine wX (wpAny_holding (wpAny_call_entry slot_list_sort ⟨_,Ll,rfl⟩ entry_list_sort (list_sort_treeK strKind_oneLt Ll kU.keysOf (λv₁ v₂ rest e=>keyKind_strs (by rw[←e];exact kU)) (by rw[Iu];exact FK) λoj a1 a2=>⟨_,rfl,?_⟩) (args_list_sort _)));obtain⟨EH,b1,b2,b3⟩:=sorted_out_str kU a1 a2;obtain⟨e,he⟩:=sortedHeap_at (out:=(arrOf oj).map (·.2)) Ll;refine wY ⟨_,rfl,hQ s1 _ _ _ e EH hk E7 hg (λb u q=>?_) (vT _) he b1 (b2.trans gn) b3⟩;have hl:=vX q;rw[sortedHeap_old (vS hl) (by rw[size_push'];exact Nat.lt_succ_of_lt hl)];exact vZ _ q
end
end DL
namespace DL
open PySem PySem.Spec PyProof.Rows L2
def qK (a b:Str):Prop:=¬b.cps.toList<a.cps.toList
theorem xp:ltCps b.cps.toList a.cps.toList=false↔qK a b:=by rw[ltCps_eq,decide_eq_false_iff_not];rfl
theorem pz (h:qK a b)(k:qK b c):qK a c:=by
 unfold qK at *;exact List.not_lt.mpr (List.le_trans (List.not_lt.mp h) (List.not_lt.mp k))
theorem A6 (h:qK a b)(k:qK b a):a=b:=by
 have e:a.cps.toList=b.cps.toList:=List.le_antisymm (List.not_lt.mp h) (List.not_lt.mp k);obtain⟨a⟩:=a;obtain⟨b⟩:=b;have:a=b:=Array.toList_inj.mp e;rw[this]
noncomputable def uH (x:Str):List Str->List Str
 |[]=>[x]
 |y::r=>if ltCps y.cps.toList x.cps.toList then y::uH x r else x::y::r
noncomputable def kr (l:List Str):List Str:=l.foldr uH []
theorem lq (x:Str):∀l,(uH x l).Perm (x::l)
 |[]=>List.Perm.refl _
 |y::r=>by
  unfold uH;split
  ·exact((lq x r).cons y).trans (List.Perm.swap x y r)
  ·exact List.Perm.refl _
theorem gc:∀l,(kr l).Perm l
 |[]=>List.Perm.refl _
 |x::l=>(lq x (kr l)).trans ((gc l).cons x)
theorem p0 (x:Str):∀l,l.Pairwise qK->(uH x l).Pairwise qK
 |[],_=>by simp[uH]
 |y::r,h=>by
  obtain⟨h1,h2⟩:=List.pairwise_cons.mp h;unfold uH;split
  ·rename_i hl;refine List.pairwise_cons.mpr ⟨λz hz=>?_,p0 x r h2⟩;rcases vP ((lq x r).mem_iff.mp hz)with rfl|hz
   ·rw[ltCps_eq,decide_eq_true_eq]at hl;exact λk=>List.lt_irrefl _ (List.lt_trans hl k)
   ·exact h1 z hz
  ·rename_i hl;rw[Bool.not_eq_true]at hl;have MA:qK x y:=xp.mp hl;refine List.pairwise_cons.mpr ⟨λz hz=>?_,h⟩;rcases vP hz with rfl|hz
   ·exact MA
   ·exact pz MA (h1 z hz)
theorem mU:∀l,(kr l).Pairwise qK
 |[]=>List.Pairwise.nil
 |x::l=>p0 x _ (mU l)
theorem lH:∀(l:List Str)(p:Str),risingS p l=true->(p::l).Pairwise qK
 |[],p,_=>List.pairwise_singleton _ _
 |x::r,p,h=>by
  have h':(!ltCps x.cps.toList p.cps.toList && risingS x r)=true:=h;rw[vD]at h';have Qp:qK p x:=xp.mp (by simpa using h'.1);have ih:=lH r x h'.2;refine List.pairwise_cons.mpr ⟨λz hz=>?_,ih⟩;rcases vP hz with rfl|hz
  ·exact Qp
  ·exact pz Qp ((List.pairwise_cons.mp ih).1 z hz)
theorem sy:∀(l:List Str),sortedS l=true->l.Pairwise qK
 |[],_=>List.Pairwise.nil
 |x::r,h=>lH r x h
theorem sA (a:Str):qK a a:=List.lt_irrefl _
theorem mV:∀(l1 l2:List Str),l1.Perm l2->l1.Pairwise qK->l2.Pairwise qK->l1=l2
 |[],l2,p,_,_=>(List.nil_perm.mp p).symm
 |x::r1,[],p,_,_=>absurd p.length_eq (by simp)
 |x::r1,y::r2,p,h1,h2=>by
  have MA:qK x y:=by
   rcases vP (p.mem_iff.mpr (mX ..))with z|z
   ·rw[z];exact sA _
   ·exact(List.pairwise_cons.mp h1).1 y z
  have RP:qK y x:=by
   rcases vP (p.mem_iff.mp (mX ..))with z|z
   ·rw[z];exact sA _
   ·exact(List.pairwise_cons.mp h2).1 x z
  have e:=A6 MA RP;subst e;rw[mV r1 r2 (List.Perm.cons_inv p) (List.pairwise_cons.mp h1).2 (List.pairwise_cons.mp h2).2]
theorem yB (p:l'.Perm l)(h:sortedS l'=true):l'=kr l:=mV _ _ (p.trans (gc l).symm) (sy _ h) (mU l)
section
variable {X:Cx}
noncomputable def sC (X:Cx)(S:Addr)(ts:List Str):HO:=.ext λh=>gp X.prog X.w h S ts
theorem yC (I:Inv X ac σ H s)(k:∀b u,s.heap.get? b=some u->s1.heap.get? b=some u)(ho:s1.os=s.os)(hg:s1.gens=s.gens):Inv X ac σ H s1:=by
 have I1:=I.step (g':=s.gens) (d':=s1.drawn) (t':=s1.toks) (h':=s1.heap) (H':=H) (ch:=[]) (λ_ z=>nomatch z) (λb o _ _ _ e _=>k b o e) (λb o _ _ _ e _=>⟨o.slots,k b o e⟩) (λ_ _ _ _ n=>n)
  (λb o _ e=>⟨o,k b o e⟩) (λ_ _ e=>e) (λ_ _ _ e=>e) (λ_ _ e=>e) (λm hm=>?_) (I.hok.kept k) I.bare
 ·obtain⟨h1,g1,d1,t1,o1⟩:=s1;cases ho;cases hg
  exact I1
 ·obtain⟨o,es,ep,ho,r⟩:=hm;exact⟨o,es,ep,k _ o ho,r⟩
theorem lI (hc:X.calm=true):bN X (.type "set") (λxs H Q=>∃p ys ss,xs=[.ref p]/\fO X.K H p ys/\(∀its,aS ys its->StrsAre its ss)/\ss.length<4000/\∀S,H S=none->Q (.ref S) (upd H S (sC X S (eY ss)))):=by
 intro ac s σ H xs us Q I r h;obtain⟨p,ys,ss,rfl,hq,hs,FK,q⟩:=h;obtain⟨u,rfl,rx⟩:=gu r;cases rx
 obtain⟨its,r',pl,hz⟩:=I.list hq;have kU:=hs its r';have bC:its.length=ss.length:=by rw[←kU.strs,vI]
 refine mR (I.ok.hd hc) pl.isList (by simpa using kU) (by simp only[vH];unfold scanBound;omega) λh' tk hS hk=>?_;refine⟨.ref s.heap.objs.size,_,I.laid (t':=tk) (λb u e=>hk b u (vX e) e) (vT _) ?_,rfl,q _ (I.hok.fresh (vT _))⟩;refine⟨hS,?_,λh1 h2 z k=>z.at k⟩;obtain⟨o,_,_,_,ho,_⟩:=hS;exact⟨o,ho⟩
theorem lX (hc:X.calm=true):bN X (.builtin "sorted") (λxs H Q=>∃S ts,xs=[.ref S]/\H S=some (sC X S ts)/\ts.length<64/\∀l,H l=none->Q (.ref l) (upd H l (.lst ((kr ts).map .str)))):=by
 intro ac s σ H xs us Q I r h;obtain⟨S,ts,rfl,hS,FK,q⟩:=h;obtain⟨u,rfl,rx⟩:=gu r;cases rx
 have hT:gp X.prog X.w s.heap S ts:=(I.hok S _ hS).1;refine uG (I.ok.hd hc) hT FK λs1 h' a out n EH k1 ho hg k2 hp he kU gn hso=>?_;have e:=yB gn hso;subst e;have I1:=yC I k1 ho hg;have hv:∀ {its:List Value}{zs:List Str},StrsAre its zs->aS (zs.map V.str) its:=λz=>by
  induction z with
  |nil=>exact .nil
  |cons x t _ ih=>exact .cons ⟨t,rfl⟩ ih
 refine⟨.ref a,_,I1.laid (t':=s1.toks) k2 hp (show bF X.prog X.w _ h' _ (.lst _)from ⟨?_,out.toList,n,hv kU,he⟩),rfl,q _ (I1.hok.fresh hp)⟩;rw[vI,(gc ts).length_eq,sizeLine_eq];omega
end
@[simp] def ku:D->OB
 |.lst ds=>(fu ds).bind λss=>if ss.length<64 then some (.lst ((kr (eY ss)).map .str),true)else none
 |_=>none
@[simp] def kx:D->OB
 |.lst ds=>(fu ds).bind λss=>if ss.length<4000 then some (.int ((eY ss).length:Nat),false)else none
 |_=>none
theorem A7:bootBuiltins "sorted" = some (.builtin "sorted"):=by decide +kernel
theorem Fi:bootBuiltins "set" = some (.type "set"):=by decide +kernel
theorem gO {K:Frag}{N:Hp}:∀(zs:List Str),IsL K N (zs.map V.str) (zs.map D.str)
 |[]=>.nil
 |z::zs=>.cons (.str z) (gO zs)
section
variable {X:Cx}{e:Expr}{pos pos2 p p2:Pos}
theorem uJ (hc:X.calm=true)(m1:X.mg "sorted" = none)(m2:X.mg "set" = none)(he:JE X e f)(g1:Gl X "sorted":=by rfl)(g2:Gl X "set":=by rfl)
  (h1:starEach [e] X.env=(false,eval e X.env)::starEach [] X.env:=by rfl):JE X (.Call (.Name "sorted" p) [.Call (.Name "set" p2) [e] [] pos2] [] pos) (f1 ku f):=by
 refine PE.to (ke (lX hc) g1 m1 A7 (bI (lh (lI hc) g2 m2 Fi (bI he dq h1) (he:=h1)) dq)) λσ H Q q=>?_;obtain⟨B,ρ,d',bb,sB,r,ee,q⟩:=q;obtain⟨x1,ex,ee⟩:=oX ee;refine⟨B,ρ,x1.1,x1.2,sB,r,ex,λv H1 N1 xt i1 fr=>?_⟩;obtain⟨xd,xb⟩:=x1;cases i1<;>try (simp[ku]at ee;done)
 rename_i l0 vs ds h hl;simp only[ku]at ee;obtain⟨ss,ez,ee⟩:=oX ee;split at ee
 ·rename_i FK;cases ee
  refine⟨_,_,ss,rfl,xt.nh.seq h,λits r'=>gN r' hl ez,by omega,λS hS=>⟨S,_,rfl,av,Nat.lt_of_le_of_lt (mQ ss) FK,λl zH=>?_⟩⟩;have x2:=Ext.laid (o:=sC X S (eY ss)) xt.nh hS;have x3:=Ext.laid (o:=.lst ((kr (eY ss)).map V.str)) x2.nh zH;have MB:H l=none:=((xt.trans x2).hh).free zH;exact q _ _ _ ((xt.trans x2).trans x3) (.lst (fO.of av) (gO _)) λ_=>⟨_,_,_,rfl,rfl,MB,av,gO _⟩
 ·cases ee
end
end DL
namespace DL
open PySem PySem.Spec PySem.W PyProof.Rows
inductive Run (n:Nat)(lt:Nat->Nat->Bool){α:Type}:KasT α->α->Prop where
 |ret (a:α):Run n lt (.ret a) a
 |ask {i j:Nat}{k:Bool->KasT α}{a:α}(hi:i<n) (hj:j<n) (h:Run n lt (k (lt i j)) a):Run n lt (.ask i j k) a
theorem Run.bind {n:Nat}{lt:Nat->Nat->Bool}{α β:Type}{t:KasT α}{f:α->KasT β}{a:α}{b:β}(h:Run n lt t a)(k:Run n lt (f a) b):Run n lt (t.bind f) b:=by
 induction h with
 |ret a=>exact k
 |ask hi hj _ ih=>exact .ask hi hj (ih k)
section
variable {n:Nat}{rk:Nat->Int}
structure Arr (n:Nat)(p:Array Nat):Prop where
 size:p.size=n
 perm:p.toList.Perm (List.range n)
theorem Arr.lt {p:Array Nat}(h:Arr n p){k:Nat}(hk:k<n):p.getD k 0<n:=by
 have z7:k<p.size:=by rw[h.size];exact hk
 have:p.getD k 0=p[k]:=by rw[Array.getD_eq_getD_getElem?,Array.getElem?_eq_getElem z7];rfl
 rw[this];exact List.mem_range.mp (h.perm.mem_iff.mp (by simp))
end
section
variable {α:Type}(f:α->List Int)
noncomputable def Ko (x:α):List α->List α
 |[]=>[x]
 |y::r=>if f y<f x then y::Ko x r else x::y::r
noncomputable def Kq (l:List α):List α:=l.foldr (Ko f) []
end
inductive At where
 |i (n:Int)
 |s (z:Str)
noncomputable def QA:At->List Int
 |.i n=>[n]
 |.s z=>z.cps.toList.map (λ(c:Nat)=>(c:Int)+1)++[0]
noncomputable def Kr (xs:List At):List Int:=xs.flatMap QA
noncomputable def Hd:List At->List At->Option Bool
 |[],ys=>some (!ys.isEmpty)
 |_::_,[]=>some false
 |.i a::xs,.i b::ys=>if a=b then Hd xs ys else some (decide (a<b))
 |.s a::xs,.s b::ys=>if a=b then Hd xs ys else some (decide (a.cps.toList<b.cps.toList))
 |_::_,_::_=>none
noncomputable def Ks (ks:List (List At)):Bool:=ks.all λx=>ks.all λy=>(Hd x y).isSome
def QB:At->Value->Prop
 |.i n,v=>∃t,v=.int n t
 |.s z,v=>∃t,v=.str z t
def Kt (h:Heap)(xs:List At)(v:Value):Prop:=∃a o its n,v=.ref a/\h.get? a=some o/\o.cls=.type "tuple"/\o.data=.seq its n/\Paired QB xs its.toList
noncomputable def A8 (ks:List (List At)):Bool:=ks.all (λx=>match x with|.i _::_=>true|_=>false) || ks.all (λx=>match x with|.s _::_=>true|_=>false)
end DL
namespace DL
open PySem PySem.Spec PySem.W PyProof.Rows L2
noncomputable def Ku:D->Option At
 |.int n=>some (.i n)
 |.str z=>some (.s z)
 |_=>none
def uK:List D->Option (List At)
 |[]=>some []
 |d::ds=>(Ku d).bind λa=>(uK ds).map (a :: ·)
def Np:D->Option (List At)
 |.tup es=>uK es
 |_=>none
def Fj:List D->Option (List (List At))
 |[]=>some []
 |d::ds=>(Np d).bind λa=>(Fj ds).map (a :: ·)
end DL
namespace DL
open PySem PySem.Spec PyProof.Rows L2
section
variable {X:Cx}{e:Expr}{pos pos2 p p2:Pos}
theorem oA:bN X (.builtin "len") (λxs H Q=>∃S ts,xs=[.ref S]/\H S=some (sC X S ts)/\Q (.int (ts.length:Nat)) H):=by
 intro ac s σ H xs us Q I r h;obtain⟨S,ts,rfl,hS,q⟩:=h;obtain⟨u,rfl,rx⟩:=gu r;cases rx
 have hT:gp X.prog X.w s.heap S ts:=(I.hok S _ hS).1;obtain⟨o,es,ep,t,ho,Cc,hd,z6,hp,nd,hb,hf,_⟩:=hT;have sz:es.size=ts.length:=by rw[←hp.length_eq,vI,vG]
 have OA:ts.length<4096:=hb;exact PySem.call_len_set ho Cc hd hf (by rw[sz];omega) ⟨.int (ts.length:Nat),H,I.tok _,⟨_,by rw[sz]⟩,q⟩
theorem yD (hc:X.calm=true)(m1:X.mg "len" = none)(m2:X.mg "set" = none)(he:JE X e f)(g1:Gl X "len":=by rfl)(g2:Gl X "set":=by rfl)
  (h1:starEach [e] X.env=(false,eval e X.env)::starEach [] X.env:=by rfl):JE X (.Call (.Name "len" p) [.Call (.Name "set" p2) [e] [] pos2] [] pos) (f1 kx f):=by
 refine PE.to (ke oA g1 m1 cn (bI (lh (lI hc) g2 m2 Fi (bI he dq h1) (he:=h1)) dq)) λσ H Q q=>?_;obtain⟨B,ρ,d',bb,sB,r,ee,q⟩:=q;obtain⟨x1,ex,ee⟩:=oX ee;refine⟨B,ρ,x1.1,x1.2,sB,r,ex,λv H1 N1 xt i1 fr=>?_⟩;obtain⟨xd,xb⟩:=x1;cases i1<;>try (simp[kx]at ee;done)
 rename_i l0 vs ds h hl;simp only[kx]at ee;obtain⟨ss,ez,ee⟩:=oX ee;split at ee
 ·rename_i FK;cases ee
  refine⟨_,_,ss,rfl,xt.nh.seq h,λits r'=>gN r' hl ez,FK,λS hS=>⟨S,_,rfl,av,?_⟩⟩;have x2:=Ext.laid (o:=sC X S (eY ss)) xt.nh hS;exact(q.into (xt.trans x2)).one (xt.trans x2).nh (.int _)
 ·cases ee
end
section
variable {X:Cx}{a:Expr}{pos:Pos}{x:Str}{p:Pos}{d:Addr}{bE:List (Str×D)}
theorem yE (cd:ko X.K X.w.params d bE):cA X (compareOp .NotIn) (λx y H Q=>∃z,x=.str z/\y=.ref d/\Q (.bl (!(bE.lookup z).isSome)) H):=by
 rintro ac s σ H _ _ v u Q I rx ry ⟨z,rfl,rfl,q⟩;cases ry
 obtain⟨t,rfl⟩:=rx;obtain⟨f,hM,sm,hf⟩:=cd.map I;refine wpAny_notIn_of (strKind_is X.prog X.w z t) sm hM ⟨.bl (!(bE.lookup z).isSome),H,I.tok _,?_,q⟩;have:=hf z;cases el:bE.lookup z with
 |none=>rw[el]at this;dsimp only at this;rw[this];rfl
 |some dd=>rw[el]at this;obtain⟨_,_,e1,_⟩:=this;rw[e1];rfl
theorem p5 (h:∃d,X.mg x=some (.ref d)/\ko X.K X.w.params d bE)(ha:JE X a f)(hg:Gl X x:=by rfl)(hd:(x == ("__debug__" : Str))=false:=by decide)(hm:behindInMarks .NotIn (.Name x p)=false:=by rfl):JT X (.Compare a [.NotIn] [.Name x p] pos) (bw (f1 (jM bE) f)):=by
 obtain⟨d,hmg,cd⟩:=h;refine PT.to (w9 (yE cd) ha (gt (v:=.ref d) hg hmg rfl hd) hm) λσ H Q q=>?_;obtain⟨B,ρ,d',bb,sB,r,ee,q⟩:=qA q;obtain⟨x1,ex,ee⟩:=oX ee;refine⟨B,ρ,x1.1,x1.2,sB,r,ex,λv H1 N1 xt i1 fr=>?_⟩;obtain⟨xd,xb⟩:=x1;cases i1<;>try (simp[jM]at ee;done)
 rename_i z;simp only[jM]at ee;cases ee
 exact⟨z,rfl,rfl,(q.into xt).one xt.nh (.bl _)⟩
end
section
variable {prog:Program}{w:World}{A:Around}{E:Value->Shared->Prop}{s:Shared}
theorem uL {a:Addr}{o:Obj}{its:Array Value}{n:Nat}{x:Value}{e:Value->Bool}{j:Nat}{P:PySem.Fin->Shared->Prop}(ho:s.heap.get? a=some o)(hd:o.data=.seq its n)
  (he:∀y∈its,MeetsSeq.EqGives y x (e y)) (hj:j<its.size) (M9:e its[j]=true) (Je:∀m (hm:m<its.size),m<j->e its[m]=false)
  (h:P (.done (.ret (.int j s.toks))) { s with toks:=s.toks+1 }):wpAny (model prog w) A (Builtin.«tuple.index» ⟨[.ref a,x],[]⟩) P E s:=by
 show wpAny _ _ (Builtin.Tuple.tupleItemsOf (.ref a)>>=_) _ _ s;refine wX (wpAny_tupleItemsOf ho hd ?_);dsimp only;refine wX (wY (wX (wY (wX ?_))));rw[Std.Legacy.Range.forIn_eq_forIn_range'];refine wpAny_forIn_list _
  (λrest r s'=>r.1=none/\s'=s/\∃i,i<=j/\rest=List.range' i (its.size - i))
  _ ?_ ?_ _ _ ⟨rfl,rfl,0,uM _,?_⟩
 ·rintro k rest r s' ⟨hr,rfl,i,hi,hz⟩;have gs:i<its.size:=by omega
  obtain⟨m,hm⟩:∃m,its.size - i=m+1:=⟨its.size - i - 1,by omega⟩;rw[hm,List.range'_succ]at hz;injection hz with z1 z2;have z1:=z1.symm;subst z1;subst z2;have hg:its[i]? = some its[i]:=by simp[gs]
  simp only[hg];refine wX (he _ (Array.getElem_mem gs) prog w _ _ _ _ ?_);by_cases hij:i=j
  ·subst hij;rw[M9];simp only[if_true];refine wX ?_;show wpAny _ _ (mkInt (i:Int)>>=λv=>ret v) _ _ _;exact wX (wpAny_mkInt (wY (wY (wY h))))
  ·rw[Je i gs (by omega)];simp only[uW,if_false];exact wY ⟨rfl,rfl,i+1,by omega,by rw[show its.size - (i+1)=m by omega]⟩
 ·rintro⟨r1,r2⟩ s' ⟨hr,rfl,i,hi,hz⟩;exfalso;have:(List.range' i (its.size - i)).length=0:=by rw[←hz];rfl
  rw[List.length_range']at this;omega
 ·simp
end
theorem CRows.findT {K:Frag}{P:Params}(y:Str){ds:List D}:∀ {es:List DictEntry}{bE:List (Str×D)},CRows K P es bE->bE.lookup y=some (.tup ds) ->
  ∃e a its n kW,es.find? (λe=>Value.isStrOf y e.key)=some e/\e.val=.ref a/\K.lookup a=some ⟨.type "tuple",none,.seq its n,kW⟩/\ij its.toList ds=true
 |_,_,.nil,h=>by simp at h
 |_,_,.tup (x:=x) (t:=t) (a:=a) (ds:=BZ) hh l f tl,h=>by
  by_cases e:y=x
  ·subst e;rw[List.lookup_cons_self]at h;cases h
   rw[vD]at f;exact⟨_,a,_,_,_,List.find?_cons_of_pos (by simp[Value.isStrOf]),rfl,l,f.2⟩
  ·rw[List.lookup_cons,beq_eq_false_iff_ne.mpr e]at h;have nf:Value.isStrOf y (Value.str x t)=false:=by
    rw[Bool.eq_false_iff];intro z;obtain⟨t',q⟩:=Value.isStrOf_shape z;injection q with q1;exact e q1.symm
   simp only[List.find?_cons,nf];exact tl.findT y h
 |_,_,.flat (x:=x) (t:=t) (u:=u) (d:=d) hh f tl,h=>by
  by_cases e:y=x
  ·subst e;rw[List.lookup_cons_self]at h;cases h
   cases u<;>simp[qF]at f
  ·rw[List.lookup_cons,beq_eq_false_iff_ne.mpr e]at h;have nf:Value.isStrOf y (Value.str x t)=false:=by
    rw[Bool.eq_false_iff];intro z;obtain⟨t',q⟩:=Value.isStrOf_shape z;injection q with q1;exact e q1.symm
   simp only[List.find?_cons,nf];exact tl.findT y h
section
variable {X:Cx}{b e:Expr}{pos:Pos}{x:Str}{p:Pos}
def Nq (K:Frag):V->List V->Hp->VK->Prop:=λx xs H Q=>∃(a:Addr)(o:Obj)(its:Array Value)(n:Nat)(zs:List Str)(y:Str),x=.ref a/\xs=[.str y]/\K.lookup a=some o/\o.cls=.type "tuple"/\o.data=.seq its n/\StrsAre its.toList zs/\zs.findIdx (· == y)<zs.length/\Q (.int (zs.findIdx (· == y):Nat)) H
noncomputable def Fk (y:Str):Value->Bool
 |.str z _=>z == y
 |_=>false
theorem xq:∀ {its:List Value}{zs:List Str},StrsAre its zs->∀(i:Nat)(hi:i<its.length),∃(h:i<zs.length)(t:Tok),its[i]=.str zs[i] t
 |_,_,.cons z t h,0,_=>⟨by simp,t,rfl⟩
 |_,_,.cons z t h,i+1,hi=>by
  obtain⟨h',t',e⟩:=xq h i (by simpa using hi);exact⟨by simpa using h',t',by simpa using e⟩
 |_,_,.nil,i,hi=>by simp at hi
theorem sD:∀ {its:List Value}{zs:List Str},StrsAre its zs->its.length=zs.length
 |_,_,.nil=>rfl
 |_,_,.cons _ _ h=>by rw[vE,vE,sD h]
theorem A9:zF X "tuple.index" (Nq X.K):=by
 intro ac s σ H x xs v us Q I rx rv h;obtain⟨a,o,its,n,zs,y,rfl,rfl,lk,hc,hd,hz,hk,q⟩:=h;cases rx
 obtain⟨u,rfl,⟨t,rfl⟩⟩:=rv.one;have ho:=I.kIn a o lk;have hl:=sD hz;rw[vG]at hl;have at':∀(i:Nat)(hi:i<its.size),∃(h:i<zs.length)(t:Tok),its[i]=.str zs[i] t:=λi hi=>by
  obtain⟨h',t',e⟩:=xq hz i (by simpa using hi);exact⟨h',t',by simpa using e⟩
 refine wpAny_call_entry PySem.F.slot_tuple_index ⟨o,ho,hc⟩ PySem.F.entry_tuple_index (uL (e:=Fk y) (j:=zs.findIdx (· == y)) ho hd (λz hm=>?_) (by omega) ?_ (λm hm gs=>?_) ⟨_,rfl,.int (zs.findIdx (· == y):Nat),H,I.tok _,⟨_,rfl⟩,q⟩) (PySem.F.args_tuple_index_2 _ _)
 ·obtain⟨i,hi,rfl⟩:=Array.mem_iff_getElem.mp hm;obtain⟨_,t',e'⟩:=at' i hi;rw[e'];exact eqGives_str _ _ _ _
 ·obtain⟨_,t',e'⟩:=at' (zs.findIdx (· == y)) (by omega);rw[e'];exact List.findIdx_getElem (p:=(· == y)) (w:=hk)
 ·obtain⟨_,t',e'⟩:=at' m hm;rw[e'];have:=List.not_of_lt_findIdx (p:=(· == y)) (xs:=zs) gs;simpa [Fk]using this
@[simp] def oB (bE:List (Str×D)):D->D->OB
 |.str y,.str z=>match bE.lookup y with
  |some (.tup ds)=>(fu ds).bind λzs=>if zs.findIdx (· == z)<zs.length then some (.int (zs.findIdx (· == z):Nat),false)else none
  |_=>none
 |_,_=>none
theorem Dz {bE:List (Str×D)}{f g:FE}{eW bU:Pos}(h:∃d,X.mg x=some (.ref d)/\ko X.K X.w.params d bE)(hb:JE X b f)(he:JE X e g)(hg:Gl X x:=by rfl)(jW:(x == ("__debug__" : Str))=false:=by decide)(hs:mj b:=by intro _ _;rfl)
  (gl:attributeBase (.Subscript (.Name x p) b pos) "index" X.env (eval (.Subscript (.Name x p) b pos) X.env)=eval (.Subscript (.Name x p) b pos) X.env:=by rfl)
  (om:((backTo bU (starEach [e] X.env)).all (λx=>!x.1) && (backToKw bU (keywordEach [] X.env)).all (λx=>x.1.isSome)
   && decide ([e].length+([]:List Keyword).length+(if([]:List Keyword).isEmpty then 0 else 1)<30))=true:=by rfl)
  (gm:(eW.endLine == bU.line)=true:=by rfl) (kU:starEach [e] X.env=[(false,eval e X.env)]:=by rfl):
  JE X (.Call (.Attribute (.Subscript (.Name x p) b pos) "index" eW) [e] [] bU) (f2 (oB bE) f g):=by
 obtain⟨d,hm,cd⟩:=h;have ix:zX X (λx y H Q=>∃z ds,x=.ref d/\y=.str z/\bE.lookup z=some (.tup ds)/\∀a its n kW,X.K.lookup a=some ⟨.type "tuple",none,.seq its n,kW⟩->ij its.toList ds=true->Q (.ref a) H):=by
  intro value slice ac s σ H x y v u Q I rx ry q hs;obtain⟨z,ds,rfl,rfl,el,q⟩:=q;cases rx
  obtain⟨t,rfl⟩:=ry;obtain⟨es,n,l,r,sm⟩:=cd;have hM:=PySem.W.mapOf_K (prog:=X.prog) (w:=X.w) I.kIn l r.lit;obtain⟨en,a,its,n',kW,e1,e2,e3,e4⟩:=r.findT z el;have ff:findBy Value.isStrOf es z=some (.ref a):=by
   unfold findBy;obtain⟨es⟩:=es;rw[List.find?_toArray,e1,←e2];rfl
  exact tail_any hM.typeIs slot_dict_getitem.lookup (wpAny_getItem_of (strKind_is X.prog X.w z t) hM ff ⟨.ref a,H,I.tok _,rfl,q a _ _ _ e3 e4⟩) hs
 refine PE.to (rC (T:="tuple") PySem.F.plainAttrs_tuple PySem.F.slot_tuple_index PySem.F.type_tuple_index A9 (zY ix (gt (v:=.ref d) hg hm rfl jW) hb hs) (bI he dq kU) gl om gm kU rfl) λσ H Q q=>?_;obtain⟨B,ρ,d',bb,sB,r,ee,q⟩:=q;obtain⟨x1,ex,ee⟩:=oX ee;obtain⟨y1,ey,ee⟩:=oX ee;obtain⟨xd,xb⟩:=x1;obtain⟨yd,yb⟩:=y1;cases xd with
 |str z=>
  cases yd with
  |str y=>
   refine⟨B,ρ,_,xb,sB,r,ex,λv H1 N1 xt i1 _=>?_⟩;cases i1
   simp only[oB]at ee;split at ee
   ·rename_i ds el;obtain⟨zs,ez,ee⟩:=oX ee;split at ee
    ·rename_i hk;cases ee
     refine⟨z,ds,rfl,rfl,el,λa its n kW l fl=>⟨.inr (.inl ⟨rfl,_,l,rfl,rfl⟩),N1,ρ,_,yb,xt.nh,r.mono xt.bn,ey,λv2 H2 N2 yc i2 _=>?_⟩⟩;cases i2
     obtain⟨vs,rv,iv⟩:=ik (K:=X.K) fl;exact⟨a,_,its,n,zs,y,rfl,rfl,l,rfl,rfl,gN rv (iv N2) ez,hk,(q.into (xt.trans yc)).one yc.nh (.int _)⟩
    ·cases ee
   ·cases ee
  |_=>simp[oB]at ee
 |_=>simp[oB]at ee
end
open PySem.W (tabIn tabObj CodeHd kla_fn kla_obj kla_eval kla_makeFunction kla_makeFunctionHit kla_callFunE kla_codeExpr envX)
section
variable {P:Program}{w:World}{K:Frag}{mg:Str->Option Value}{base:Heap}
theorem dN.fnL {x:Str}{st:Stmt}{N ps:List Str}{k:Nat}{g:FS}{h:Heap}(F:dN K x st)(X:K.In h)(G:h.Ns mainGlobals mg)(S:FnScope N ps (ax st))
  (wn:∀(kV doc pm:Value)(an:Option Addr)(cf ct:Value)(us:List Value),us.length=ps.length->bindArgs (fnOf x x (cS st) (bp st) (ax st) .none kV doc pm an cf ct) ⟨us,[]⟩=pure (ps.zip us))
  (hb:∀(f:Addr)(cf:Value)(A:Around)(outer:List PySem.Env)(s:Shared)(H:Hp)(E:XK),(∀c P,tabIn K x=some (c,P)->cf=.ref c)->cC k (A.deeper (envOfC x (ax st) s.heap.objs.size f cf))->rg (dG ml P w K mg base N x (ax st) f cf A outer s H E).nox (bp st) g):
  Fn P w K mg base (k+1) x (aR g ps.length (N.length - ps.length)):=by
 obtain⟨f,fd,F1,a⟩:=F;have F2:=F1;obtain⟨oc,od,kV,doc,pm,an,cf,ct,kW,rfl,lk,gH⟩:=F2.ex;have hc:∀c P,tabIn K x=some (c,P)->cf=.ref c:=λc P e=>by
  unfold tabIn at e;simp only[a,lk]at e;split at e
  ·rename_i c' _;split at e
   ·split at e
    ·cases e;rfl
    ·cases e
   ·cases e
  ·cases e
 have len:∀vs H Q E,Cr K (aR g ps.length (N.length - ps.length)) vs H Q E->vs.length=ps.length:=λvs H Q E h=>by
  obtain⟨B,ds,d,b,sB,i,e,q⟩:=h;unfold aR at e;split at e
  ·rename_i hl;rw[i.length];exact hl
  ·cases e
 refine⟨f,_,ps,wC lk gH S len λA outer s H vs Q E hr h=>⟨_,lD.nox (hb f cf A outer s H E hc hr),?_⟩,mg_of X G a,F1.kp,F1.binds wn⟩;have bC:=len vs H Q E h;obtain⟨B,ds,d,b,sB,i,e,q⟩:=h;unfold aR at e;rw[if_pos (by rw[←i.length];exact bC)]at e;have s0:=mJ (N:=N) sB.1 sB.2 i;rw[bC]at s0;split at e
 ·rename_i d' b' eg;cases e
  exact⟨B,H,_,_,⟨B,s0⟩,eg,λv H' N' x' i' f'=>q v H' N' x' i' f'⟩
 ·rename_i ρ' eg;cases e
  exact⟨B,H,_,_,⟨B,s0⟩,eg,λσ' H' ⟨N',s'⟩=>q .non H' N' s'.ext .non (by simp)⟩
 ·cases e
end
inductive oq (X:Cx)(N':List Str)(scope:Scope)(cl:List (Str×Addr)):Nat->List Nat->Prop where
 |nil {j:Nat}(h:N'.length=j):oq X N' scope cl j []
 |cons {j i:Nat}{r:List Nat}{x:Str}(h1:N'[j]? = some x) (h2:X.N[i]? = some x) (h3:X.env.kindOf x=some .cell∨X.env.kindOf x=some .free)
   (h4:scope.names.lookup x=some .free) (h5:cl.lookup x=X.env.cells.lookup x) (t:oq X N' scope cl (j+1) r):oq X N' scope cl j (i::r)
theorem oq.len:∀ {j:Nat}{cap:List Nat},oq X N' scope cl j cap->N'.length=j+cap.length
 |_,_,.nil h=>by rw[h];rfl
 |j,i::r,.cons _ _ _ _ _ t=>by rw[t.len,vE];omega
theorem oq.get:∀ {j:Nat}{cap:List Nat}{k i:Nat},oq X N' scope cl j cap->cap[k]? = some i->∃x,N'[j+k]? = some x/\X.N[i]? = some x/\(X.env.kindOf x=some .cell∨X.env.kindOf x=some .free) /\
  scope.names.lookup x=some .free/\cl.lookup x=X.env.cells.lookup x
 |_,_,_,_,.nil _,e=>by simp at e
 |j,_,0,_,.cons h1 h2 h3 h4 h5 _,e=>by simp at e;subst e;exact⟨_,h1,h2,h3,h4,h5⟩
 |j,_,k+1,i,.cons _ _ _ _ _ t,e=>by
  obtain⟨x,q,r⟩:=t.get (k:=k) (i:=i) (by simpa using e);exact⟨x,by rw[show j+(k+1)=j+1+k by omega];exact q,r⟩
end DL
namespace DL
open PySem PySem.Spec PySem.W PyProof.Rows L2
noncomputable def Kv (f:D->Option D):List D->Option (List D)
 |[]=>some []
 |d::ds=>(f d).bind λx=>(Kv f ds).map (x :: ·)
def AA (ks:List (List At))(ds:List D):List D:=(Kq (λp:List At×D=>Kr p.1) (ks.zip ds)).map (·.2)
@[simp] def AB (kd:List D->Option (List (List At)))(ok:List (List At)->Bool)(f:FE)(kf:Env->D->Option D):FE:=λρ=>(f ρ).bind λx=>match x.1 with
 |.lst ds=>(Kv (kf ρ) ds).bind λRQ=>(kd RQ).bind λks=>if ks.length<64/\Ks ks=true/\ok ks=true/\(ks.map Kr).Nodup then some (.lst (AA ks ds),true)else none
 |_=>none
@[simp] abbrev Nr:FE->(Env->D->Option D)->FE:=AB Fj A8
section
variable {prog:Program}{w:World}{A:Around}{E:Value->Shared->Prop}{s:Shared}{op:CmpOp}
theorem Kt.type (h:Kt s.heap xs v):s.TypeIs v "tuple":=by
 obtain⟨a,o,its,n,rfl,ho,hc,_⟩:=h;exact⟨o,ho,hc⟩
end
end DL
namespace DL
open PySem PySem.Spec PyProof.Rows L2
section
variable {X:Cx}
@[simp] def jp:List D->OB
 |[d,.tup [.ty n,.ty m]]=>if u6 d=true then none else if n = "list"/\m = "tuple" then some (.bl (fY d == "list" || fY d == "tuple"),false)else none
 |_=>none
theorem yF (K:Frag)(d:D)(hd:∀n,d≠.ty n):PySem.W.kitAny K (.type (fY d)) [.type "list",.type "tuple"]=some (fY d == "list" || fY d == "tuple"):=by
 obtain⟨_,_,_,k4,k5⟩:=Ap K d hd;unfold PySem.W.kitAny;rw[k4];cases fY d == "list" with
 |true=>rfl
 |false=>
  unfold PySem.W.kitAny;rw[k5];cases fY d == "tuple" with
  |true=>rfl
  |false=>rfl
theorem AD (I:Inv X ac σ H s)(i:Is X.K H v d)(hd:∀n,d≠.ty n)(rx:aL v u)(ht:IsTup s.heap tp its.toArray)(e:PySem.W.kitAny X.K (.type (fY d)) its=some b)(h:∀tk,Q (.bool b) { s with toks:=tk }):
  wpAny (model X.prog X.w) A (call (.builtin "isinstance") [u,.ref tp]) Q E s:=by
 obtain⟨⟨cls,dd,data,sl⟩,ho,hc,n,LR⟩:=id ht;dsimp only at hc LR;subst hc;subst LR;cases i with
 |non=>cases (show u=Value.none from rx);exact PySem.W.kia_tup PySem.W.kitx_none I.kIn True.intro ho e (λz=>nomatch z) h
 |bl y=>cases (show u=Value.bool y from rx);exact PySem.W.kia_tup PySem.W.kitx_bool I.kIn True.intro ho e (λz=>nomatch z) h
 |int i=>obtain⟨t,q⟩:=(show ∃t,u=Value.int i t from rx);cases q;exact PySem.W.kia_tup PySem.W.kitx_int I.kIn True.intro ho e (λz=>nomatch z) h
 |str y=>obtain⟨t,q⟩:=(show ∃t,u=Value.str y t from rx);cases q;exact PySem.W.kia_tup PySem.W.kitx_str I.kIn True.intro ho e (λz=>nomatch z) h
 |ty n=>exact absurd rfl (hd n)
 |dk h1 _ _=>
  cases rx
  obtain⟨_,_,_,vs,_,o,es,ep,e1,e2,_⟩:=(show bF X.prog X.w H s.heap _ (.dK _ _)from I.hok _ _ h1);exact PySem.W.kia_tup PySem.W.kitx_dict I.kIn ⟨o,e1,e2.1⟩ ho e (λz=>nomatch z) h
 |dt h1 _ _=>
  cases rx
  obtain⟨_,_,xs,_,o,es,ep,e1,e2,_⟩:=(show bF X.prog X.w H s.heap _ (.dT _)from I.hok _ _ h1);exact PySem.W.kia_tup PySem.W.kitx_dict I.kIn ⟨o,e1,e2.1⟩ ho e (λz=>nomatch z) h
 |tup ht _=>
  cases rx
  obtain⟨its,_,⟨o,h1,h2,_⟩,_⟩:=I.tuple ht;exact PySem.W.kia_tup PySem.W.kitx_tuple I.kIn ⟨o,h1,h2⟩ ho e (λz=>nomatch z) h
 |lst hl _=>
  cases rx
  obtain⟨its,_,⟨o,n,h1,h2,_⟩,_⟩:=I.list hl;exact PySem.W.kia_tup PySem.W.kitx_list I.kIn ⟨o,h1,h2⟩ ho e (λz=>nomatch z) h
theorem p6:bN X (.builtin "isinstance") (zG X.K jp):=by
 intro ac s σ H xs us Q I rs q;obtain⟨B,ds,d,b,sB,i,e,q⟩:=q;cases i with
 |nil=>cases e
 |@cons _ dx _ _ i1 i=>
  cases i with
  |nil=>cases e
  |cons i2 i=>
   cases i with
   |cons _ _=>simp[jp]at e
   |nil=>
    cases i2<;>try (cases e;done)
    rename_i hs hl;cases hl with
    |nil=>cases e
    |cons j1 hl=>
     cases j1<;>try (cases e;done)
     cases hl with
     |nil=>cases e
     |cons j2 hl=>
      cases j2<;>try (cases e;done)
      cases hl with
      |cons _ _=>simp[jp]at e
      |nil=>
       obtain⟨u1,u2,rfl,r1,r2⟩:=EN rs;simp only[jp]at e;split at e
       ·cases e
       ·rename_i ht;have hd:∀n,dx≠.ty n:=λn z=>by subst z;exact ht rfl
        split at e
        ·rename_i hh;obtain⟨rfl,rfl⟩:=hh;cases e
         cases r2
         obtain⟨its,rv,p,_⟩:=I.tuple (aZ sB hs);obtain⟨w1,w2,rfl,RS,RU⟩:=rv.two;cases RS
         cases RU
         exact AD I (i1.mono sB) hd r1 p (yF X.K dx hd) λtk=>⟨.bl _,H,I.tok tk,rfl,q.one sB (.bl _)⟩
        ·cases e
end
@[simp] noncomputable def Fl:D->Option jY
 |.int i=>some (.inl i)
 |.str x=>some (.inr x)
 |_=>none
noncomputable def AE {κ:Type}[DecidableEq κ]:List κ->List D->κ->Option D
 |k'::ks,d::ds,k=>if k'=k then some d else AE ks ds k
 |_,_,_=>none
section
variable {X:Cx}{o e i:Expr}{pos:Pos}
@[simp] def SQ:D->D->OB
 |.dk ks vs,y=>(Fl y).bind λk=>(AE ks vs k).map λd=>(d,false)
 |_,_=>none
@[simp] def SR:D->D->OB
 |y,.dk ks vs=>(Fl y).map λk=>(.bl (AE ks vs k).isSome,false)
 |_,_=>none
end
section
variable {prog:Program}{w:World}{A:Around}{E:Value->Shared->Prop}{s:Shared}
abbrev lr (h:Heap)(z TI TO T0:Addr)(f:Bool):Prop:=h.get? z=some { cls:=.type "zip",dict:=none,data:=.fields #[rawInt T0,.bool f,.bool false,.ref TI,.ref TO],slots:=#[] }
theorem AF (e:s.heap.get? a=some o)(h:Q (some o) s):wpAny (model prog w) A (loadIfAlive a) Q E s:=by
 intro Γ p hΓ;unfold loadIfAlive;simp only[Sem.wp];rw[e];exact h
theorem p7 {z TI TO T0:Addr}{f:Bool}{oT:Obj}{Q:Bool->Shared->Prop}(hz:lr s.heap z TI TO T0 f)(hT:s.heap.get? T0=some oT)
  (q:∀h',lr h' z TI TO T0 true->Heap.SameBut z s.heap h'->Q false { s with heap:=h' }):wpAny (model prog w) A (Builtin.SmallTypes.ownedTupleIsFree (.ref z)) Q E s:=by
 unfold Builtin.SmallTypes.ownedTupleIsFree;refine wX (wpAny_field hz rfl (x:=rawInt T0) rfl ?_);show wpAny _ _ (loadIfAlive ((T0:Int).toNat)>>=_) _ _ _;rw[Int.toNat_natCast];refine wX (AF hT ?_);simp only[Option.isNone_some,uW,if_false];refine wX (wpAny_field hz rfl (x:=.bool f) rfl ?_);cases f with
 |true=>
  rw[if_neg (show ¬((Value.bool true != Value.bool true)=true)from uY)];exact wY (q s.heap hz (.refl _ _))
 |false=>
  rw[if_pos (show((Value.bool false != Value.bool true)=true)from rfl)];refine wX (wpAny_setField_rec hz (by simp) λh' hz' s'=>wY (q h' hz' s'))
end
section
variable {prog:Program}{w:World}{A:Around}{E:Value->Shared->Prop}{s:Shared}
theorem yG {k1 k2:Bool}{z TI TO T0 i1 i2 l1 l2:Addr}{f:Bool}{oT:Obj}{j:Nat}{xs ys:Array Value}{x y:Value}{Q:Value->Shared->Prop}(D:ZApart z TI TO i1 i2)(m1:l1≠z/\l1≠TO/\l1≠i1)(m2:l2≠z/\l2≠TO/\l2≠i1/\l2≠i2)
  (hz:lr s.heap z TI TO T0 f) (hT:s.heap.get? T0=some oT) (hI:IsPair s.heap TI (.ref i1) (.ref i2)) (t1:jZ k1 s.heap i1 l1 j) (t2:jZ k2 s.heap i2 l2 j) (q1:jL k1 s.heap l1 xs) (q2:jL k2 s.heap l2 ys) (hx:xs[j]? = some x) (hy:ys[j]? = some y)
  (q:∀h',lr h' z TI TO T0 true->jZ k1 h' i1 l1 (j+1)->jZ k2 h' i2 l2 (j+1)->IsPair h' s.heap.objs.size x y ->
   (∀c o,c≠z->c≠i1->c≠i2->s.heap.get? c=some o->h'.get? c=some o)->Q (.ref s.heap.objs.size) { s with heap:=h' }):
  wpAny (model prog w) A (Builtin.«zip.__next__» ⟨[.ref z],[]⟩) (λgY s'=>∃v,gY=.done (.ret v)/\Q v s') E s:=by
 show wpAny _ _ (field (.ref z) 2>>=_) _ _ s;refine wX (wpAny_field hz rfl (x:=.bool false) rfl ?_);show wpAny _ _ (field (.ref z) 3>>=_) _ _ s;refine wX (wpAny_field hz rfl (x:=.ref TI) rfl (wX (wpAny_seqItems hI rfl ?_)));show wpAny _ _ (Builtin.SmallTypes.ownedTupleIsFree (.ref z)>>=_) _ _ s;refine wX (p7 hz hT λg1 hz1 s1=>?_);simp only[uW,if_false];refine wX ?_;simp only[←Array.forIn_toList,List.forIn_cons,List.forIn_nil];refine wX (wX (wpAny_holding ?_));show wpAny _ _ (Builtin.SmallTypes.nextOf (.ref i1)>>=_) _ _ { s with heap:=g1 };refine wX (fK (s:={ s with heap:=g1 }) (t1.upon λo e=>s1.extBut _ _ D.az e) (q1.upon λo e=>s1.extBut _ _ m1.1 e) hx λg2 t12 s2=>wY ?_);refine wY (wX (wX (wpAny_holding ?_)));show wpAny _ _ (Builtin.SmallTypes.nextOf (.ref i2)>>=_) _ _ { s with heap:=g2 };have IB:∀ {c o},c≠z->c≠i1->s.heap.get? c=some o->g2.get? c=some o:=λc1 c3 e=>s2.extBut _ _ c3 (s1.extBut _ _ c1 e);refine wX (fK (s:={ s with heap:=g2 }) (t2.upon λo e=>IB D.bz D.ab.symm e) (q2.upon λo e=>IB m2.1 m2.2.2.1 e) hy λg4 t24 s4=>wY ?_);refine wY (wY ?_);refine wX (wpAny_newTuple (hsz:=(by decide:2<=sizeLine)) ?_);have sz:g4.objs.size=s.heap.objs.size:=by rw[s4.1,s2.1,s1.1]
 have RV:∀c o,c≠z->c≠i1->c≠i2->s.heap.get? c=some o->g4.get? c=some o:=λc o c1 c3 c4 e=>s4.extBut _ _ c4 (IB c1 c3 e);refine wY ⟨_,rfl,?_⟩;show Q (.ref g4.objs.size) { s with heap:=g4.push { cls:=.type "tuple",data:=.seq #[x,y] } };have hp:IsPair (g4.push { cls:=.type "tuple",data:=.seq #[x,y] }) g4.objs.size x y:=vY _ rfl;rw[sz]at hp ⊢;exact q _ (vZ _ (s4.extBut _ _ D.bz.symm (s2.extBut _ _ D.az.symm hz1))) (t12.upon λo e=>vZ _ (s4.extBut _ _ D.ab e)) (t24.upon λo e=>vZ _ e) hp λc o c1 c3 c4 e=>vZ _ (RV c o c1 c3 c4 e)
theorem AG {k1 k2:Bool}{z TI TO T0 i1 i2 l1 l2:Addr}{f:Bool}{oT:Obj}{j:Nat}{xs ys:Array Value}{Q:PySem.Fin->Shared->Prop}(hA:A.handled=none)(D:ZApart z TI TO i1 i2)(m1:l1≠z/\l1≠TO/\l1≠i1)(m2:l2≠z/\l2≠TO/\l2≠i1/\l2≠i2)
  (hz:lr s.heap z TI TO T0 f) (hT:s.heap.get? T0=some oT) (hI:IsPair s.heap TI (.ref i1) (.ref i2)) (t1:jZ k1 s.heap i1 l1 j) (t2:jZ k2 s.heap i2 l2 j) (q1:jL k1 s.heap l1 xs) (q2:jL k2 s.heap l2 ys) (he:xs[j]? = none∨ys[j]? = none)
  (q:∀h' x,(∀c o,c≠z->c≠i1->c≠i2->s.heap.get? c=some o->h'.get? c=some o)->(∃o,h'.get? x=some o/\o.cls=.type "StopIteration")->E (.ref x) { s with heap:=h' }):
  wpAny (model prog w) A (Builtin.«zip.__next__» ⟨[.ref z],[]⟩) Q E s:=by
 show wpAny _ _ (field (.ref z) 2>>=_) _ _ s;refine wX (wpAny_field hz rfl (x:=.bool false) rfl ?_);show wpAny _ _ (field (.ref z) 3>>=_) _ _ s;refine wX (wpAny_field hz rfl (x:=.ref TI) rfl (wX (wpAny_seqItems hI rfl ?_)));show wpAny _ _ (Builtin.SmallTypes.ownedTupleIsFree (.ref z)>>=_) _ _ s;refine wX (p7 hz hT λg1 hz1 s1=>?_);simp only[uW,if_false];refine wX ?_;simp only[←Array.forIn_toList,List.forIn_cons,List.forIn_nil];refine wX (wX (wpAny_holding ?_));show wpAny _ _ (Builtin.SmallTypes.nextOf (.ref i1)>>=_) _ _ { s with heap:=g1 };cases hx:xs[j]? with
 |none=>
  exact wX (km (s:={ s with heap:=g1 }) hA (t1.upon λo e=>s1.extBut _ _ D.az e) (q1.upon λo e=>s1.extBut _ _ m1.1 e) hx λg2 x s2 hX=>q g2 x (λc o c1 c3 _ e=>s2 _ _ c3 (s1.extBut _ _ c1 e)) hX)
 |some v=>
  have hy:ys[j]? = none:=by
   rcases he with h|h
   ·rw[hx]at h;cases h
   ·exact h
  refine wX (fK (s:={ s with heap:=g1 }) (t1.upon λo e=>s1.extBut _ _ D.az e) (q1.upon λo e=>s1.extBut _ _ m1.1 e) hx λg2 t12 s2=>wY ?_);refine wY (wX (wX (wpAny_holding ?_)));show wpAny _ _ (Builtin.SmallTypes.nextOf (.ref i2)>>=_) _ _ { s with heap:=g2 };have IB:∀ {c o},c≠z->c≠i1->s.heap.get? c=some o->g2.get? c=some o:=λc1 c3 e=>s2.extBut _ _ c3 (s1.extBut _ _ c1 e);exact wX (km (s:={ s with heap:=g2 }) hA (t2.upon λo e=>IB D.bz D.ab.symm e) (q2.upon λo e=>IB m2.1 m2.2.2.1 e) hy λg4 x s4 hX=>q g4 x (λc o c1 c3 c4 e=>s4 _ _ c4 (IB c1 c3 e)) hX)
end
structure ZA (k1 k2:Bool)(z TI TO i1 i2 l1 l2:Addr):Prop where
 D:ZApart z TI TO i1 i2
 m1:l1≠z/\l1≠TO/\l1≠i1
 m2:l2≠z/\l2≠TO/\l2≠i1/\l2≠i2
def AH (k1 k2:Bool)(z TI TO i1 i2 l1 l2 S:Addr)(i:Nat)(h:Heap):Prop :=
 IsPair h TI (.ref i1) (.ref i2)/\jZ k1 h i1 l1 i/\jZ k2 h i2 l2 i/\((IsZip h z TI TO .none/\∃a b,IsPair h TO a b)∨∃T0 f oT oO,lr h z TI TO T0 f/\h.get? T0=some oT/\T0∉[z,TI,TO,i1,i2]/\T0≠S/\h.get? TO=some oO)
theorem AH.keep {k1 k2:Bool}{z TI TO i1 i2 l1 l2 S:Addr}{i:Nat}{h h':Heap}(st:AH k1 k2 z TI TO i1 i2 l1 l2 S i h)(hS:S∉[z,TI,TO,i1,i2])(k:∀b o,b≠S->h.get? b=some o->h'.get? b=some o):AH k1 k2 z TI TO i1 i2 l1 l2 S i h':=by
 obtain⟨a1,a2,a3,a4⟩:=st;have n:∀ {b},b∈[z,TI,TO,i1,i2]->b≠S:=λhb e=>hS (e ▸ hb);refine⟨k _ _ (n (by simp)) a1,a2.upon λo e=>k _ o (n (by simp)) e,a3.upon λo e=>k _ o (n (by simp)) e,?_⟩;rcases a4 with⟨b1,a,b,b2⟩|⟨T0,f,oT,oO,b1,b2,b3,b4,b5⟩
 ·exact .inl ⟨k _ _ (n (by simp)) b1,a,b,k _ _ (n (by simp)) b2⟩
 ·exact .inr ⟨T0,f,oT,oO,k _ _ (n (by simp)) b1,k _ _ b4 b2,b3,b4,k _ _ (n (by simp)) b5⟩
section
variable {prog:Program}{w:World}{A:Around}{E:Value->Shared->Prop}{s:Shared}{k1 k2:Bool}{z TI TO i1 i2 l1 l2 S:Addr}{j:Nat}{xs ys:Array Value}
theorem AH.ty (st:AH k1 k2 z TI TO i1 i2 l1 l2 S j h):∃o,h.get? z=some o/\o.cls=.type "zip":=by
 obtain⟨_,_,_,a4⟩:=st;rcases a4 with⟨b1,_⟩|⟨T0,f,oT,oO,b1,_⟩
 ·exact⟨_,b1,rfl⟩
 ·exact⟨_,b1,rfl⟩
theorem AI (Z:ZA k1 k2 z TI TO i1 i2 l1 l2)(hS:S<s.heap.objs.size)(st:AH k1 k2 z TI TO i1 i2 l1 l2 S j s.heap)(q1:jL k1 s.heap l1 xs)(q2:jL k2 s.heap l2 ys)(hx:xs[j]? = some x)(hy:ys[j]? = some y)
  (q:∀h',AH k1 k2 z TI TO i1 i2 l1 l2 S (j+1) h'->IsPair h' s.heap.objs.size x y->(∀c o,c∉[z,TI,TO,i1,i2]->s.heap.get? c=some o->h'.get? c=some o)->Q (some (.ref s.heap.objs.size)) { s with heap:=h' }):
  wpAny (model prog w) A (pyNext (.ref z)) Q E s:=by
 have hT:s.TypeIs (.ref z) "zip":=st.ty;obtain⟨hI,t1,t2,a4⟩:=st;have lt:∀ {c o},s.heap.get? c=some o->s.heap.objs.size≠c:=λe=>Nat.ne_of_gt (vX e);obtain⟨o1,e1,_⟩:=t1.ob;obtain⟨o2,e2,_⟩:=t2.ob;unfold pyNext;rcases a4 with⟨hz,a,b,hO⟩|⟨T0,f,oT,oO,hz,h0,n0,nS,hO⟩
 ·refine wX (wpAny_attempt (wpAny_callSpecial?_slot (name:=Str.ofString "__next__") hT PySem.F.slot_zip_next (wpAny_call_entry PySem.F.slot_zip_next hT PySem.F.entry_zip_next (sf Z.D Z.m1 Z.m2 hz hI hO t1 t2 q1 q2 hx hy λh' b1 b2 b3 b4 b5 b6 bk=>wY ?_) (PySem.F.args_zip_next_1 _))));refine q h' ⟨bk _ _ Z.D.tz Z.D.to Z.D.ta Z.D.tb hI,b3,b4,.inr ⟨_,false,_,_,b1,b5,?_,Nat.ne_of_gt hS,b2⟩⟩ b5 λc o hc e=>bk c o (λz=>hc (by simp[z])) (λz=>hc (by simp[z])) (λz=>hc (by simp[z])) (λz=>hc (by simp[z])) e;simp only[List.mem_cons,List.not_mem_nil,or_false,not_or];exact⟨lt hz,lt hI,lt hO,lt e1,lt e2⟩
 ·refine wX (wpAny_attempt (wpAny_callSpecial?_slot (name:=Str.ofString "__next__") hT PySem.F.slot_zip_next (wpAny_call_entry PySem.F.slot_zip_next hT PySem.F.entry_zip_next (yG Z.D Z.m1 Z.m2 hz h0 hI t1 t2 q1 q2 hx hy λh' b1 b3 b4 b5 bk=>wY ?_) (PySem.F.args_zip_next_1 _))));exact q h' ⟨bk _ _ Z.D.tz Z.D.ta Z.D.tb hI,b3,b4,.inr ⟨T0,true,oT,oO,b1,bk _ _ (λz=>n0 (by simp[z])) (λz=>n0 (by simp[z])) (λz=>n0 (by simp[z])) h0,n0,nS,bk _ _ Z.D.oz Z.D.oa Z.D.ob hO⟩⟩ b5 λc o hc e=>bk c o (λz=>hc (by simp[z])) (λz=>hc (by simp[z])) (λz=>hc (by simp[z])) e
theorem AJ (hA:A.handled=none)(Z:ZA k1 k2 z TI TO i1 i2 l1 l2)(st:AH k1 k2 z TI TO i1 i2 l1 l2 S j s.heap)(q1:jL k1 s.heap l1 xs)(q2:jL k2 s.heap l2 ys)(he:xs[j]? = none∨ys[j]? = none)
  (q:∀h',(∀c o,c∉[z,TI,TO,i1,i2]->s.heap.get? c=some o->h'.get? c=some o)->Q none { s with heap:=h' }):wpAny (model prog w) A (pyNext (.ref z)) Q E s:=by
 have hT:s.TypeIs (.ref z) "zip":=st.ty;obtain⟨hI,t1,t2,a4⟩:=st;unfold pyNext;rcases a4 with⟨hz,a,b,hO⟩|⟨T0,f,oT,oO,hz,h0,n0,nS,hO⟩
 ·refine wX (wpAny_attempt (wpAny_callSpecial?_slot (name:=Str.ofString "__next__") hT PySem.F.slot_zip_next (wpAny_call_entry PySem.F.slot_zip_next hT PySem.F.entry_zip_next (xj hA Z.D Z.m1 Z.m2 hz hI hO t1 t2 q1 q2 he λh' x hk hX=>?_) (PySem.F.args_zip_next_1 _))));obtain⟨o,eo,co⟩:=hX;exact wX (wpAny_isInstance (T:="StopIteration") (b:=true) ⟨o,eo,co⟩ isSubtype_stop (wY (q h' λc o hc e=>hk c o (λz=>hc (by simp[z])) (λz=>hc (by simp[z])) (λz=>hc (by simp[z])) (λz=>hc (by simp[z])) e)))
 ·refine wX (wpAny_attempt (wpAny_callSpecial?_slot (name:=Str.ofString "__next__") hT PySem.F.slot_zip_next (wpAny_call_entry PySem.F.slot_zip_next hT PySem.F.entry_zip_next (AG hA Z.D Z.m1 Z.m2 hz h0 hI t1 t2 q1 q2 he λh' x hk hX=>?_) (PySem.F.args_zip_next_1 _))));obtain⟨o,eo,co⟩:=hX;exact wX (wpAny_isInstance (T:="StopIteration") (b:=true) ⟨o,eo,co⟩ isSubtype_stop (wY (q h' λc o hc e=>hk c o (λz=>hc (by simp[z])) (λz=>hc (by simp[z])) (λz=>hc (by simp[z])) e)))
end
theorem AK (h:a≠b):upd (upd H a o) b u=upd (upd H b u) a o:=by
 funext c;unfold upd;by_cases h1:c=b
 ·by_cases h2:c=a
  ·exact absurd (h2.symm.trans h1) h
  ·rw[if_pos h1,if_neg h2,if_pos h1]
 ·rw[if_neg h1];by_cases h2:c=a
  ·rw[if_pos h2,if_pos h2]
  ·rw[if_neg h2,if_neg h2,if_neg h1]
theorem sE (h:H a=none):aQ H (upd H a o):=λb u e=>by rw[aA (aV e h)];exact e
theorem yH (h:(fZ ds es)[i]? = some d):(fZ ds es).take (i+1)=(fZ ds es).take i++[d]:=by
 rw[List.take_add_one,h];rfl
theorem uO:typeLookup (.type "zip") "__len__" = pure none:=by rw[typeLookup_type,builtinLookup_eq_fast];kernel_rfl
theorem sG:typeLookup (.type "zip") "__length_hint__" = pure none:=by rw[typeLookup_type,builtinLookup_eq_fast];kernel_rfl
section
variable {X:Cx}{ac:List (Addr×Obj)}{σ:St}{B H0:Hp}{A:Around}{R:Result->Shared->Prop}{k1 k2:Bool}{z TI TO i1 i2 l1 l2 S:Addr}{us ws:List V}{ds es:List D}
theorem yI (hA:A.handled=none)(Z:ZA k1 k2 z TI TO i1 i2 l1 l2)(hS:S∉[z,TI,TO,i1,i2])(h1:lV k1 X.K B l1 us)(j1:IsL X.K B us ds)(h2:lV k2 X.K B l2 ws)(j2:IsL X.K B ws es)
  (hR:∀Hc N vs s',Inv X ac σ (upd Hc S (.lst vs)) s'->Hc S=none->Ext B N H0 Hc->IsL X.K N vs (fZ ds es)->R (.ok (.ret .none)) s'):
  ∀(k i:Nat)(s:Shared)(Hc N:Hp)(vs:List V),(fZ ds es).length - i=k->i<=(fZ ds es).length->Inv X ac σ (upd Hc S (.lst vs)) s->Hc S=none->Ext B N H0 Hc->(∀b∈[z,TI,TO,i1,i2],kc X ac (upd Hc S (.lst vs)) b) ->
   AH k1 k2 z TI TO i1 i2 l1 l2 S i s.heap->IsL X.K N vs ((fZ ds es).take i) ->
   codeAny (model X.prog X.w) A (.builtin "list.extend.loop" ⟨[.ref S,.ref z,.none],[]⟩) R s:=by
 have n1:=j1.length;have n2:=j2.length;have nz:(fZ ds es).length=min ds.length es.length:=by unfold fZ;rw[List.length_zipWith]
 intro k;induction k with
 |zero=>
  intro i s Hc N vs hk hi I hc xt fp st il;have wo:i=(fZ ds es).length:=by omega
  have sm:aQ B (upd Hc S (.lst vs)):=(xt.bn.trans xt.nh).trans (sE hc);obtain⟨its,r1,p1,z1⟩:=(h1.same sm).vals I;obtain⟨oG,r2,p2,z2⟩:=(h2.same sm).vals I;have e1:=r1.length;have e2:=r2.length;refine codeAny_builtin PySem.F.entry_extend_loop ?_;rw[Around.under_plainId PySem.F.plain_extend_loop _];show wpAny _ A.in1 (pyNext (.ref z)>>=_) _ _ s;refine wX (AJ (A:=A.in1) hA Z st p1 p2 ?_ λh' z7=>?_)
  ·by_cases q:ds.length<=es.length
   ·left;simp;omega
   ·right;simp;omega
  ·refine wY (hR Hc N vs _ (mm (t':=s.toks) I fp z7) hc xt ?_);rw[wo,List.take_length]at il;exact il
 |succ k ih=>
  intro i s Hc N vs hk hi I hc xt fp st il;have gs:i<(fZ ds es).length:=by omega
  have sm:aQ B (upd Hc S (.lst vs)):=(xt.bn.trans xt.nh).trans (sE hc);obtain⟨its,r1,p1,z1⟩:=(h1.same sm).vals I;obtain⟨oG,r2,p2,z2⟩:=(h2.same sm).vals I;have d1:i<ds.length:=by omega
  have d2:i<es.length:=by omega
  obtain⟨x,hx,ix⟩:=j1.get (vU d1);obtain⟨y,hy,iy⟩:=j2.get (vU d2);obtain⟨u,hu,ru⟩:=r1.get hx;obtain⟨v,hv,rv⟩:=r2.get hy;have el:(fZ ds es)[i]? = some (.tup [ds[i],es[i]]):=by
   unfold fZ;rw[List.getElem?_zipWith,vU d1,vU d2]
  obtain⟨zl,gZ,c,RW,Td,eS⟩:=I.lstM av;have Qq:S<s.heap.objs.size:=vX eS;refine codeAny_builtin PySem.F.entry_extend_loop ?_;rw[Around.under_plainId PySem.F.plain_extend_loop _];show wpAny _ A.in1 (pyNext (.ref z)>>=_) _ _ s;refine wX (AI (A:=A.in1) Z Qq st p1 p2 (by simpa using hu) (by simpa using hv) λh' oj hp z7=>?_);have fr:upd Hc S (.lst vs) s.heap.objs.size=none:=I.hok.fresh (vT _);have nS:s.heap.objs.size≠S:=Nat.ne_of_gt Qq;have Qr:Hc s.heap.objs.size=none:=by rw[aA nS]at fr;exact fr
  have new:bF X.prog X.w (upd (upd Hc S (.lst vs)) s.heap.objs.size (.tup [x,y])) h' s.heap.objs.size (.tup [x,y]):=⟨by show 2<=sizeLine;decide,[u,v],.cons ru (.cons rv .nil),⟨_,hp,rfl,_,rfl⟩⟩;have I1:Inv X ac σ (upd (upd Hc S (.lst vs)) s.heap.objs.size (.tup [x,y])) { s with heap:=h' }:=Ax (s:=s) (t':=s.toks) I fp z7 (vT _) new;rw[AK nS.symm]at I1;have Qs:h'.get? S=some { cls:=.type "list",data:=.seq gZ.toArray c }:=z7 S _ hS eS;have yc:Ext B (upd N s.heap.objs.size (.tup [x,y])) H0 (upd Hc s.heap.objs.size (.tup [x,y])):=xt.trans (Ext.laid xt.nh Qr);have vl:vs.length=i:=by rw[il.length,List.length_take];omega
  have zs:=zl;show wpAny _ A.in1 (updateSeq S (·.push (Value.ref s.heap.objs.size))>>=_) _ _ _;refine wX ?_;have lz:(vs++[V.ref s.heap.objs.size]).length<=sizeLine:=by
   rw[vA,vl];have a1:=z1;show i+1<=sizeLine;omega
  have I2:=I1.lset (t':=s.toks) (ys:=vs++[.ref s.heap.objs.size]) (its':=gZ++[.ref s.heap.objs.size]) (f:=(·.push (Value.ref s.heap.objs.size))) av Qs (by simp) (RW.append (.cons (show aL (.ref _) (.ref _)from rfl) .nil)) lz;rw[mf]at I2;refine wpAny_updateSeq Qs rfl (wY ⟨plainId_quiet PySem.F.plain_extend_loop _,ih (i+1) _ _ _ (vs++[.ref s.heap.objs.size]) (by omega) gs I2 (by rw[aA nS.symm];exact hc) yc (λb hb=>?_) (oj.keep hS λb o hb e=>(Heap.get?_update_other _ _ (Ne.symm hb)).trans e) ?_⟩) (by simp;omega) (by simp;omega)
  ·obtain⟨f0,f1,f2,f3,f4,f5⟩:=fp b hb;refine⟨?_,f1,f2,f3,f4,f5⟩;have nb:b≠S:=λe=>hS (e ▸ hb);rw[aA nb]at f0 ⊢;have nT:b≠s.heap.objs.size:=by
    obtain⟨hI,t1,t2,a4⟩:=st;obtain⟨o1,e1,_⟩:=t1.ob;obtain⟨o2,e2,_⟩:=t2.ob;simp only[List.mem_cons,List.not_mem_nil,or_false]at hb;have lt:∀ {c o},s.heap.get? c=some o->c≠s.heap.objs.size:=λe=>vS (vX e);have hO:∃o,s.heap.get? TO=some o/\∃o,s.heap.get? z=some o:=by
     rcases a4 with⟨hz,a,b,hO⟩|⟨T0,f,oT,oO,hz,h0,n0,nS,hO⟩
     ·exact⟨_,hO,_,hz⟩
     ·exact⟨_,hO,_,hz⟩
    obtain⟨o3,e3,o4,e4⟩:=hO;rcases hb with rfl|rfl|rfl|rfl|rfl
    ·exact lt e4
    ·exact lt hI
    ·exact lt e3
    ·exact lt e1
    ·exact lt e2
   rw[aA nT];exact f0
  ·rw[yH el];exact(il.mono (Ext.laid xt.nh Qr).bn).append (.cons (.tup (gA.of av) (.cons (ix.mono yc.bn) (.cons (iy.mono yc.bn) .nil))) .nil)
end
section
variable {X:Cx}{ac:List (Addr×Obj)}{σ:St}{B H:Hp}{s:Shared}{k1 k2:Bool}{z TI TO i1 i2 l1 l2:Addr}{us ws:List V}{ds es:List D}
theorem oC (hA:X.A.handled=none)(I:Inv X ac σ H s)(Z:ZA k1 k2 z TI TO i1 i2 l1 l2)(fp:∀b∈[z,TI,TO,i1,i2],kc X ac H b)
  (hI:IsPair s.heap TI (.ref i1) (.ref i2)) (t1:jZ k1 s.heap i1 l1 0) (t2:jZ k2 s.heap i2 l2 0) (hz:IsZip s.heap z TI TO .none) (hO:IsPair s.heap TO a b)
  (sB:aQ B H) (h1:lV k1 X.K B l1 us) (j1:IsL X.K B us ds) (h2:lV k2 X.K B l2 ws) (j2:IsL X.K B ws es)
  (q:∀(S:Addr)(Hc N:Hp)(vs:List V),Hc S=none->Ext B N H Hc->IsL X.K N vs (fZ ds es)->Q (.ref S) (upd Hc S (.lst vs))):
  wq X (call (.type "list") [.ref z]) (EP X ac σ Q) X.xe s:=by
 have lt:∀ {c o},s.heap.get? c=some o->s.heap.objs.size≠c:=λe=>Nat.ne_of_gt (vX e);have yg:s.heap.objs.size∉[z,TI,TO,i1,i2]:=by
  obtain⟨o1,e1,_⟩:=t1.ob;obtain⟨o2,e2,_⟩:=t2.ob;simp only[List.mem_cons,List.not_mem_nil,or_false,not_or];exact⟨lt hz,lt hI,lt hO,lt e1,lt e2⟩
 have nz:s.heap.objs.size≠z:=lt hz;have RX:AH k1 k2 z TI TO i1 i2 l1 l2 s.heap.objs.size 0 s.heap:=⟨hI,t1,t2,.inl ⟨hz,a,b,hO⟩⟩;have hc:H s.heap.objs.size=none:=I.fresh;refine callType_codes (Q₁:=λobj s₁=>obj=.ref s.heap.objs.size/\s₁={ s with heap:=s.heap.push { cls:=.type "list",data:=.seq #[] } }) PySem.F.called_list (PySem.F.typeCall_list_1 _) PySem.F.entry_list_init
  (code_list_new _ ⟨rfl,rfl⟩) λobj s₁ h₁=>?_
 obtain⟨rfl,rfl⟩:=h₁;have hS:(s.heap.push { cls:=.type "list",data:=.seq #[] }).get? s.heap.objs.size=some { cls:=.type "list",data:=.seq ([]:List Value).toArray }:=vY _ rfl;have I1:Inv X ac σ (upd H s.heap.objs.size (.lst [])) { s with heap:=s.heap.push { cls:=.type "list",data:=.seq #[] } }:=I.lnew (t':=s.toks) (its:=[]) .nil (uM _);have RY:AH k1 k2 z TI TO i1 i2 l1 l2 s.heap.objs.size 0 (s.heap.push { cls:=.type "list",data:=.seq #[] }):=RX.keep yg λb o _ e=>vZ _ e;refine⟨⟨_,hS,rfl⟩,PySem.F.args_list_init_2 _ _,?_⟩;show wpAny _ _ (do let FL ←Builtin.List.listItems (.ref s.heap.objs.size);Builtin.List.listUpdate (.ref s.heap.objs.size) (λ_=>#[]);letGo FL.toList.reverse;Builtin.List.listExtendWith (.ref s.heap.objs.size) (.ref z) .none) _ _ _;refine wX ?_;unfold Builtin.List.listItems;refine wX (wpAny_seqItems hS rfl (wY ?_));show wpAny _ _ (updateSeq s.heap.objs.size (λ_=>#[])>>=λ_=>letGo (#[]:Array Value).toList.reverse>>=λ_=>Builtin.List.listExtendWith (.ref s.heap.objs.size) (.ref z) .none) _ _ _;refine wX (wpAny_updateSeq hS rfl ?_);have I2:=I1.lset (t':=s.toks) (ys:=[]) (its':=[]) (f:=λ_=>#[]) av hS rfl .nil (uM _);have wk:=RY.keep (h':=(s.heap.push { cls:=.type "list",data:=.seq #[] }).update s.heap.objs.size (Obj.mapSeq λ_=>(#[]:Array Value))) yg λb o hb e=>(Heap.get?_update_other _ _ (Ne.symm hb)).trans e;rw[mf]at I2;generalize hg2:(s.heap.push { cls:=.type "list",data:=.seq #[] }).update s.heap.objs.size (Obj.mapSeq λ_=>(#[]:Array Value))=g2 at I2 wk ⊢;obtain⟨_,zw,c2,v2,_,FI⟩:=I2.lstM av;have e2:=v2.zero;subst e2;refine wX (wpAny_letGo ?_);unfold Builtin.List.listExtendWith;refine wX (wpAny_typeOf (T:="zip") wk.ty ?_);have FM:Builtin.List.listSameRef (.ref s.heap.objs.size) (.ref z)=false:=by simp[Builtin.List.listSameRef,nz]
 have qm:(Value.type "zip" == Value.type "list")=false:=by decide
 have MC:(Value.type "zip" == Value.type "tuple")=false:=by decide
 simp only[FM,qm,MC,Bool.or_false,uW,if_false];have M6:IsZip g2 z TI TO .none:=by
  rw[←hg2];exact(Heap.get?_update_other _ _ nz).trans (vZ _ hz)
 refine wX (wpAny_pyIter_zip M6 ?_);refine wX (wpAny_holding ?_);unfold Builtin.List.listLengthHint;refine wX (wpAny_specialOf (T:="zip") wk.ty uO ?_);show wpAny _ _ (specialOf (Value.ref z) (Str.ofString "__length_hint__")>>=_) _ _ _;refine wX (wpAny_specialOf (T:="zip") wk.ty sG ?_);refine wY ?_;show wpAny _ _ (rule "list.extend.makes-room" >>= λ_=>Builtin.List.listTouch (.ref s.heap.objs.size)>>=λ_=>
  again (.builtin "list.extend.loop" ⟨[.ref s.heap.objs.size,.ref z,.none],[]⟩)) _ _ _
 refine wX (wpAny_rule ?_);refine wX ?_;show wpAny _ _ (updateSeq s.heap.objs.size (·.push .none)>>=λ_=>updateSeq s.heap.objs.size (·.pop)) _ _ _;refine wX (wpAny_updateSeq FI rfl ?_);have I3:=I2.lset (t':=s.toks) (ys:=[.non]) (its':=[.none]) (f:=(·.push .none)) av FI rfl (.cons (show aL .non .none from rfl) .nil) (by show 1<=sizeLine;decide);have Ln:=wk.keep (h':=g2.update s.heap.objs.size (Obj.mapSeq (·.push .none))) yg λb o hb e=>(Heap.get?_update_other _ _ (Ne.symm hb)).trans e;rw[mf]at I3;generalize hg3:g2.update s.heap.objs.size (Obj.mapSeq (·.push .none))=g3 at I3 Ln ⊢;obtain⟨_,RZ,c3,v3,_,M8⟩:=I3.lstM av;obtain⟨n3,rfl,r3⟩:=v3.one;cases r3
 refine wpAny_updateSeq (hz:=by simp<;>decide) M8 rfl ?_
 have I4:=I3.lset (t':=s.toks) (ys:=[]) (its':=[]) (f:=(·.pop)) av M8 rfl .nil (uM _);have Sa:=Ln.keep (h':=g3.update s.heap.objs.size (Obj.mapSeq (·.pop))) yg λb o hb e=>(Heap.get?_update_other _ _ (Ne.symm hb)).trans e;rw[mf]at I4;refine wY ⟨plainId_quiet PySem.F.plain_extend_loop _,yI (A:=X.A.in1) (B:=B) (H0:=H) hA Z yg h1 j1 h2 j2 (λHc N vs s' I' F9 xt il=>?_) _ 0 _ H B [] rfl (uM _) I4 hc (Ext.refl sB) (λb hb=>?_) Sa .nil⟩
 ·exact⟨rfl,.ref s.heap.objs.size,_,I',rfl,q _ Hc N vs F9 xt il⟩
 ·obtain⟨f0,f1⟩:=fp b hb;refine⟨?_,f1⟩;have nb:b≠s.heap.objs.size:=λe=>yg (e ▸ hb);rw[aA nb];exact f0
end
@[simp] def Pn (fa fb:FE):FE:=λρ=>(y4 fa fb ρ).map λds=>(.lst ds,true)
section
variable {X:Cx}{a b:Expr}{pos p pos2 p2:Pos}
theorem uT (OC:X.calm=true)(hl:X.mg "list" = none)(hm:X.mg "zip" = none)(ha:JE X a fa)(hb:JE X b fb)(Sb:Gl X "list":=by rfl)(hg:Gl X "zip":=by rfl)
  (hs:starEach [a,b] X.env=[(false,eval a X.env),(false,eval b X.env)]:=by rfl) (qm:starEach [b] X.env=[(false,eval b X.env)]:=by rfl)
  (MC:starEach [.Call (.Name "zip" p2) [a,b] [] pos2] X.env=[(false,eval (.Call (.Name "zip" p2) [a,b] [] pos2) X.env)]:=by rfl):
  JE X (.Call (.Name "list" p) [.Call (.Name "zip" p2) [a,b] [] pos2] [] pos) (Pn fa fb):=by
 intro ac s σ H Q I q;obtain⟨B,ρ,d,bb,sB,r,ee,gY⟩:=q;obtain⟨zs,Qt,e2⟩:=oY ee;cases e2
 clear ee;have ee:=Qt;clear Qt;obtain⟨x1,ex,ee⟩:=oX ee;obtain⟨y1,ey,ee⟩:=oX ee;obtain⟨xs,Ox,ee⟩:=oX ee;obtain⟨ys,Oy,ee⟩:=oY ee;subst ee;refine wpAny_Call_Name_kw (hU I Sb hl mK ?_ (by decide) (by decide));refine PyProof.Rows.callWith_type1 ?_ (by rw[MC];rfl) rfl;rw[MC];show wpAny _ _ (spliced ((false,eval (.Call (.Name "zip" p2) [a,b] [] pos2) X.env)::backTo pos [])) _ _ s;refine Calls.spliced_cons ?_;refine wpAny_Call_Name_kw (hU I hg hm Fg ?_ (by decide) (by decide));refine PyProof.Rows.callWith_type1 (cb (ae ha (ae hb aj qm) (by rw[hs,qm]) pos2 ac s σ H (λvs H1=>∃N1,Ext B N1 H H1/\IsL X.K N1 vs [x1.1,y1.1]) I ⟨B,ρ,[x1.1,y1.1],sB,r,by simp[ag,al,ex,ey],λvs H1 N1 xt i1=>⟨N1,xt,i1⟩⟩) λus s1 ⟨vs,H1,I1,r1,N1,xt,il⟩=>?_) (by rw[hs,qm]) (by rw[qm];rfl);cases il with
 |cons j1 j2=>
  cases j2 with
  |cons j2 j3=>
   cases j3
   obtain⟨k1,l1,Te,rfl,h1,m1⟩:=xk j1 Ox;obtain⟨k2,l2,Tf,rfl,h2,m2⟩:=xk j2 Oy;obtain⟨u1,u2,rfl,Ov,Ow⟩:=r1.two;cases Ov
   cases Ow
   obtain⟨its,v1,p1,z1⟩:=(h1.same xt.nh).vals I1;obtain⟨oG,v2,p2,z2⟩:=(h2.same xt.nh).vals I1;have DS:=p1.lt;have EC:=p2.lt;refine xi p1 p2 λh' c1 c2 c3 c4 c5 ck=>?_;have D:ZApart (s1.heap.objs.size+4) (s1.heap.objs.size+2) (s1.heap.objs.size+3) s1.heap.objs.size (s1.heap.objs.size+1):=by
    constructor<;>(intro z;exact absurd z (by first|exact vS (Nat.add_lt_add_left (by decide) _)|exact Nat.ne_of_gt (Nat.add_lt_add_left (by decide) _)|exact vS (Nat.lt_add_of_pos_right (by decide))|exact Nat.ne_of_gt (Nat.lt_add_of_pos_right (by decide))))
   have nf:∀ {l:Addr}(n:Nat),l<s1.heap.objs.size->l≠s1.heap.objs.size+n:=λn hl=>vS (vQ hl (Nat.le_add_right _ n));refine Calls.spliced_nil ?_;refine oC (s:={ s1 with heap:=h' }) (k1:=k1) (k2:=k2) (B:=N1) (H:=H1) (I1.ok.hd OC) (I1.kept (t':=s1.toks) ck) ⟨D,⟨nf 4 DS,nf 3 DS,nf 0 DS⟩,⟨nf 4 EC,nf 3 EC,nf 0 EC,nf 1 EC⟩⟩ (λb hb=>?_) c2 c4 c5 c1 c3 xt.nh h1 m1 h2 m2 λS Hc N vs hS yc il2=>?_
   ·have zI:s1.heap.objs.size<=b:=by
     simp at hb;rcases hb with rfl|rfl|rfl|rfl|rfl
     ·exact Nat.le_add_right _ 4
     ·exact Nat.le_add_right _ 2
     ·exact Nat.le_add_right _ 3
     ·exact vT _
     ·exact Nat.le_add_right _ 1
    exact I1.fpOk zI (I1.hok.fresh zI)
   ·have x3:=(xt.trans yc).trans (Ext.laid (o:=.lst vs) yc.nh hS);have LS:=il2.mono (Ext.laid (o:=.lst vs) yc.nh hS).bn;exact gY _ _ _ x3 (.lst (fO.of av) LS) λ_=>⟨_,_,_,rfl,rfl,(xt.trans yc).hh.free hS,av,LS⟩
end
@[simp] noncomputable def He:D->D->OB
 |.lst ds,.int k=>if 0<=k/\ds.length*k.toNat<=1000/\k<=1000 then some (.lst (List.replicate k.toNat ds).flatten,true)else none
 |_,_=>none
@[simp] def D0 (fa fb:FE):FE:=λρ=>(fa ρ).bind λx=>if x.2=true then (fb ρ).bind λy=>He x.1 y.1 else none
theorem IsL.rep {K:Frag}{H:Hp}{vs:List V}{ds:List D}(h:IsL K H vs ds):∀k:Nat,IsL K H (List.replicate k vs).flatten (List.replicate k ds).flatten
 |0=>.nil
 |k+1=>by rw[List.replicate_succ,List.replicate_succ,List.flatten_cons,List.flatten_cons];exact h.append (IsL.rep h k)
section
variable {X:Cx}{a b:Expr}{pos:Pos}
theorem Hf {fa fb:FE}(ha:JE X a fa)(hb:JE X b fb):JE X (.BinOp a .Mult b pos) (D0 fa fb):=by
 refine PE.to (zM GC ha hb) λσ H Q q=>?_;obtain⟨B,ρ,d,bb,sB,r,ee,q⟩:=q;obtain⟨x,ex,ee⟩:=oX ee;split at ee
 ·rename_i hx;obtain⟨⟨yd,yb⟩,ey,ee⟩:=oX ee;refine⟨B,ρ,x.1,x.2,sB,r,ex,λv H1 N1 x1 i1 fr=>⟨N1,ρ,yd,yb,x1.nh,r.mono x1.bn,ey,λu H2 N2 x2 i2 z8=>?_⟩⟩;obtain⟨a0,vs,ds,rfl,e1,h0,h1,il⟩:=fr hx;rw[e1]at ee;clear z8;cases i2<;>try (simp[He]at ee;done)
  rename_i k;simp only[He]at ee;split at ee
  ·rename_i hk;cases ee
   have hl:=il.length;refine⟨a0,k,vs,rfl,rfl,x2.nh _ _ (x2.bn _ _ h1),by omega,by omega,by rw[hl];exact vR hk.2.1 (by decide:(1000:Nat)<=sizeLine),λp hp=>?_⟩;have x3:=Ext.laid (o:=.lst (List.replicate k.toNat vs).flatten) x2.nh hp;have LS:=((il.mono x2.bn).mono x3.bn).rep k.toNat;exact q _ _ _ ((x1.trans x2).trans x3) (.lst (fO.of av) LS) λ_=>⟨_,_,_,rfl,rfl,(x1.trans x2).hh.free hp,av,LS⟩
  ·cases ee
 ·cases ee
end
end DL
namespace L2
open PySem PySem.Spec PyProof.Rows
noncomputable def D5 (lo c:Int)(n:Nat):It:=⟨λi _=>i<n,λi H x H'=>H'=H/\x=.int (lo+i*c),λi _=>n<=i⟩
theorem sI {P:Program}{w:World}{K:Frag}{tg:Expr}(it:Addr)(lo c:Int)(n:Nat):Turn P w K tg (D5 lo c n) [it] it (λi h=>IsRangeIter h it (lo+(i:Nat)*c) ((n:Int) - (i:Nat)) c) where
 mem:=by simp
 obj:=λi h st b hb=>by
  have e:b=it:=by simpa using hb
  subst e;exact⟨_,st,λv z=>by
   have z':Data.fields _=Data.cell v:=z;cases z'⟩
 keep:=λi h h' st k=>k it (by simp) _ st
 item:=by
  intro X hP hw hK hc i ac s σ H E I hf st hg;subst hP hw hK;obtain⟨f0,f1,f2,f3,f4,f5⟩:=hf it (by simp);have W:=Walks.range (prog:=X.prog) (w:=X.w) (I.ok.hd hc) it lo c n;refine W.item i s _ _ hg st λv h' tk hv oj kk=>?_;obtain⟨t,rfl⟩:=hv;have I1:Inv X ac σ H { s with heap:=h',toks:=tk }:=I.turned (λb o hb e=>kk b o (by simpa using hb) e) f0 f1 f3 f4 f5;exact⟨_,rfl,oJ (s:={ s with heap:=h',toks:=tk }) (n:="range_iterator") oj rfl rfl (by decide) ⟨.int (lo+i*c),H,I1,⟨t,rfl⟩,⟨rfl,rfl⟩,oj,λb hb=>(hf b hb).1⟩⟩
 done:=by
  intro X hP hw hK hc i ac s σ H E I hf st hg;subst hP hw hK;obtain⟨f0,f1,f2,f3,f4,f5⟩:=hf it (by simp);exact wpAny_pyNext_range_end (I.ok.hd hc) st (by have:n<=i:=hg;omega) λh' eb=>⟨rfl,I.turned (t':=s.toks) (λb o hb e=>eb b o hb e) f0 f1 f3 f4 f5⟩
 self:=λ_ _ _ _ _ st h=>wpAny_pyIter_rangeiter st h
section
variable {X:Cx}{tg:Expr}
theorem sJ (ha : -1000<=a/\a<=1000/\-1000<=b/\b<=1000)(hc:c=1∨c=2∨c=3∨c = -1):Builtin.Range.small a b c=true/\0<=Builtin.Range.rangeSize a b c:=by
 unfold Builtin.Range.small Builtin.Range.rangeSize Builtin.Range.rangeFitsLong;rcases hc with rfl|rfl|rfl|rfl
 all_goals
  simp only[vD,Bool.or_eq_true,decide_eq_true_eq,beq_iff_eq,show(1:Int) > 0 by decide,show(2:Int) > 0 by decide,show(3:Int) > 0 by decide,show ¬(-1:Int) > 0 by decide,show -(-1:Int)=1 by decide,if_true,if_false]
  split<;>omega
theorem yJ {ac:List (Addr×Obj)}{σ:St}{H:Hp}{s:Shared}{R:It->Hp->Prop}{E:Value->Shared->Prop}{lo hi c:Int}{t u v:Tok}{tk:Nat}(I:Inv X ac σ H s)(h1 : -1000<=lo/\lo<=1000/\-1000<=hi/\hi<=1000)(h2:c=1∨c=2∨c=3∨c = -1)
  (q:R (D5 lo c (Builtin.Range.rangeSize lo hi c).toNat) H):wq X (pyIter (.ref s.heap.objs.size)) (MQ X ac σ tg R) E { s with heap:=s.heap.push { cls:=.type "range",data:=.fields #[.int lo t,.int hi u,.int c v] },toks:=tk }:=by
 obtain⟨hs,hz⟩:=sJ h1 h2;refine wpAny_pyIter_range (IsRange.new ..) hs ?_;have I1:Inv X ac σ H { s with heap:=s.heap.push { cls:=.type "range",data:=.fields #[.int lo t,.int hi u,.int c v] },toks:=tk }:=I.kept λb o e=>vZ _ e;refine⟨(s.heap.push { cls:=.type "range",data:=.fields #[.int lo t,.int hi u,.int c v] }).objs.size,[(s.heap.push { cls:=.type "range",data:=.fields #[.int lo t,.int hi u,.int c v] }).objs.size],_,_,H,rfl,
  I1.kept (t':=tk) λb o e=>vZ _ e,sI _ lo c (Builtin.Range.rangeSize lo hi c).toNat,?_,λb hb=>?_,q⟩
 ·have e1:lo+((0:Nat):Int)*c=lo:=by simp
  have e2:(((Builtin.Range.rangeSize lo hi c).toNat:Nat):Int) - ((0:Nat):Int)=Builtin.Range.rangeSize lo hi c:=by omega
  show IsRangeIter _ _ (lo+((0:Nat):Int)*c) ((((Builtin.Range.rangeSize lo hi c).toNat:Nat):Int) - ((0:Nat):Int)) c;rw[e1,e2];exact vY _ rfl
 ·have e:b=(s.heap.push { cls:=.type "range",data:=.fields #[.int lo t,.int hi u,.int c v] }).objs.size:=by simpa using hb
  subst e;exact I1.fpOk (vT _) (I1.hok.fresh (vT _))
def Kw (ta:TA):TI:=λσ H R=>ta σ H λvs H1=>∃i j c:Int,vs=[.int i,.int j,.int c]/\((-1000<=i/\i<=1000/\-1000<=j/\j<=1000)/\(c=1∨c=2∨c=3∨c = -1))/\R (D5 i c (Builtin.Range.rangeSize i j c).toNat) H1
theorem yK (hg:Gl X "range")(hm:X.mg "range" = none)(ha:PA X [a,b,c] ta)(hs:starEach [a,b,c] X.env=(false,eval a X.env)::starEach [b,c] X.env)(FM:starEach [b,c] X.env=[(false,eval b X.env),(false,eval c X.env)]):
  PI X tg (.Call (.Name "range" p) [a,b,c] [] pos) (Kw ta):=by
 intro ac s σ H R I h;refine Call_ (hU I hg hm boot_range (PyProof.Rows.callWith_type1 (cb (ha pos ac s σ H _ I h) λus s1 ⟨vs,H1,I1,r1,q1⟩=>?_) hs (by rw[FM];rfl)));obtain⟨i,j,c,e,⟨q1,q2⟩,q⟩:=q1;subst e;cases r1 with
 |cons r rr=>
  cases rr with
  |cons r' rr=>
   cases rr with
   |cons r'' rr=>
    cases rr
    obtain⟨t,rfl⟩:=r;obtain⟨t',rfl⟩:=r';obtain⟨Tg,rfl⟩:=r'';exact call_range_3 (by omega) (yJ I1 q1 q2 q) (Or.inl (PyProof.noPylong_small (by omega)))
end
end L2
namespace DL
open PySem PySem.Spec PySem.W PyProof.Rows L2
section
variable {X:Cx}{a b c:Expr}{p pos:Pos}
noncomputable def ls (lo c:Int)(n:Nat):List D:=(List.range n).map λ(k:Nat)=>.int (lo+(k:Int)*c)
theorem yL {K:Frag}{B:Hp}(lo c:Int)(n:Nat):lS K (D5 lo c n) B (ls lo c n):=by
 intro i H s;unfold ls;refine⟨λd ed=>?_,λhl=>by rw[vI,List.length_range]at hl;exact hl⟩;rw[vB]at ed;obtain⟨k,ek,ed⟩:=oY ed;have hk:=vV ek;obtain⟨gs,hk⟩:=hk;rw[List.length_range]at gs;rw[List.getElem_range]at hk;subst hk;subst ed;refine⟨gs,λx H' hy=>?_⟩;obtain⟨rfl,rfl⟩:=hy;exact⟨B,.refl s,.int _⟩
@[simp] def jq (f g h:FE):FA:=λρ=>(f ρ).bind λx=>(g ρ).bind λy=>(h ρ).bind λz=>match x.1,y.1,z.1 with
 |.int i,.int j,.int c=>if(-1000<=i/\i<=1000/\-1000<=j/\j<=1000)/\(c=1∨c=2∨c=3∨c = -1)then some (ls i c (Builtin.Range.rangeSize i j c).toNat)else none
 |_,_,_=>none
theorem yM (hm:X.mg "range" = none)(ja:JE X a f)(jb:JE X b g)(jc:JE X c h)(hg:Gl X "range":=by rfl)(hs:starEach [a,b,c] X.env=(false,eval a X.env)::starEach [b,c] X.env:=by rfl)(FM:starEach [b,c] X.env=[(false,eval b X.env),(false,eval c X.env)]:=by rfl)(qm:starEach [c] X.env=[(false,eval c X.env)]:=by rfl):PI X tg (.Call (.Name "range" p) [a,b,c] [] pos) (IN X.K (jq f g h)):=by
 refine PI.to (yK hg hm (ae ja (ae jb (ae jc aj qm) (by rw[FM,qm])) hs) hs FM) λσ H R q=>?_;obtain⟨B,ρ,ds,sB,r,e',q⟩:=q;obtain⟨⟨x,xb⟩,ex,e'⟩:=oX e';obtain⟨⟨y,yb⟩,ey,e'⟩:=oX e';obtain⟨⟨z,zb⟩,ez,e'⟩:=oX e';match x,y,z,ex,ey,ez,e' with
 |.int i,.int j,.int k,ex,ey,ez,e'=>
  dsimp only at e';split at e'
  ·rename_i hj;cases e'
   refine⟨B,ρ,[.int i,.int j,.int k],sB,r,by simp[ag,al,ex,ey,ez],λvs H1 N1 x1 i1=>?_⟩;cases i1 with
   |cons i1 i2=>
    cases i1
    cases i2 with
    |cons i2 i3=>
     cases i2
     cases i3 with
     |cons i3 i4=>
      cases i3;cases i4
      exact⟨i,j,k,rfl,hj,q _ H1 N1 x1 λ_=>yL i k _⟩
  ·cases e'
theorem yN (hm:X.mg "range" = none)(ja:JE X a f)(jb:JE X b g)(jc:JE X c h)(hg:Gl X "range":=by rfl)(hs:starEach [a,b,c] X.env=(false,eval a X.env)::starEach [b,c] X.env:=by rfl)(FM:starEach [b,c] X.env=[(false,eval b X.env),(false,eval c X.env)]:=by rfl)(qm:starEach [c] X.env=[(false,eval c X.env)]:=by rfl):JI X tg (.Call (.Name "range" p) [a,b,c] [] pos) (jq f g h) :=
 PI.to (yM hm ja jb jc hg hs FM qm) λσ H R ⟨B,ρ,ds,sB,r,e',q⟩=>⟨B,ρ,ds,sB,r,e',λJ H' N x h=>q J H' N x (h _)⟩
end
end DL
namespace L2
open PySem PySem.Spec PyProof.Rows
theorem KV.get {bE:List (jY×V)}{vs:List (jY×Value)}(r:KV bE vs){i:Nat}{k:jY}{x:V}(h:bE[i]? = some (k,x)):∃u,vs[i]? = some (k,u)/\aL x u:=by
 unfold KV at r;induction r generalizing i with
 |nil=>simp at h
 |@cons p q ps qs hq t ih=>
  cases i with
  |zero=>
   cases (show p=(k,x)from vK h)
   obtain⟨q1,q2⟩:=q;exact⟨q2,by rw[show k=q1 from hq.1];rfl,hq.2⟩
  |succ i=>exact ih h
end L2
namespace DL
open PySem PySem.Spec PyProof.Rows L2
@[simp] abbrev eF (i:Nat)(j:Int):FE:=f2 eE (ah i) (fC (.int j))
theorem bB (F:Fn X.prog X.w X.K X.mg X.base k x f)(hr:cC j X.A)(ha:JA X (e::es) fa)(hj:k<=j:=by decide)(hg:Gl X x:=by rfl)(jW:(x == ("__debug__" : Str))=false:=by decide)(he:starEach (e::es) X.env=(false,eval e X.env)::starEach es X.env:=by rfl)(hpl:(backTo pos (starEach es X.env)).any (·.1)=false:=by rfl):JE X (.Call (.Name x p) (e::es) [] pos) (fA f fa):=wN F (hr.mono hj) ha hg jW he hpl
theorem Kx (h1:∀y∈scope.names,y.2≠.cell:=by decide +kernel)(h2:scope.kind=.function:=by rfl)(h3:∀y∈scope.names,y.2=.local->scope.names.lookup y.1=some .local:=by decide +kernel)(Og:(scope.names.all λy=>!(y.2 == NameKind.free) || (X.env.cells.lookup y.1).isSome)=true:=by rfl):CompSc X scope (dS scope.names X.env.cells []):=GJ h1 h2 h3 Og
theorem Po (h1:N'[j]? = some x)(h2:X.N[i]? = some x)(t:kX X N' scope (dS scope.names X.env.cells []) (j+1) r)(h3:X.env.kindOf x=some .cell∨X.env.kindOf x=some .free:=by exact Or.inl rfl)(h4:(relabel scope X.env).names.lookup x=some .cell∨(relabel scope X.env).names.lookup x=some .free:=by exact Or.inl rfl)(hf:(x,NameKind.free)∈scope.names:=by decide +kernel)(hc:(X.env.cells.lookup x).isSome=true:=by rfl):kX X N' scope (dS scope.names X.env.cells []) j (i::r):=.cons h1 h2 h3 h4 (CZ hf hc) t
end DL
namespace DL
open PySem PySem.Spec PySem.W PyProof.Rows L2
def Nt:D->Option (List At)
 |.tup [.int n,.tup es]=>(uK es).map (.i n :: ·)
 |_=>none
def Fm:List D->Option (List (List At))
 |[]=>some []
 |d::ds=>(Nt d).bind λa=>(Fm ds).map (a :: ·)
@[simp] abbrev Nu:FE->(Env->D->Option D)->FE:=AB Fm λ_=>true
end DL
namespace DL
open PySem PySem.Spec PyProof.Rows L2
def Ky:Nat->(List Value->Prop)->Prop
 |0,P=>P []
 |n+1,P=>∀a,Ky n λl=>P (a::l)
theorem AL:∀n P,Ky n P->∀us:List Value,us.length=n->P us
 |0,_,h,[],_=>h
 |n+1,_,h,a::us,e=>AL n _ (h a) us (Nat.succ.inj e)
section
variable {P:Program}{w:World}{K:Frag}{mg:Str->Option Value}{base:Heap}
def KC (K:Frag)(mg:Str->Option Value)(x:Str)(c:D):Prop:=∃u v,mg x=some u/\aL v u/\∀B,Is K B v c
def KD (w:World)(K:Frag)(mg:Str->Option Value)(x:Str)(c:List (Str×D)):Prop:=∃d,mg x=some (.ref d)/\ko K w.params d c
theorem kc_of {x:Str}{c:D}{h:Heap}(X:K.In h)(G:h.Ns mainGlobals mg)(k:∃u v,PySem.W.nsIn K mainGlobals x=some (some u)/\aL v u/\∀B,Is K B v c):KC K mg x c:=let ⟨u,v,e,r⟩:=k;⟨u,v,mg_of X G e,r⟩
theorem kd_of {x:Str}{c:List (Str×D)}{h:Heap}(X:K.In h)(G:h.Ns mainGlobals mg)(k:∃d,PySem.W.nsIn K mainGlobals x=some (some (.ref d))/\ko K w.params d c):KD w K mg x c:=let ⟨d,e,r⟩:=k;⟨d,mg_of X G e,r⟩
theorem dN.fqL {x:Str}{st:Stmt}{k:Nat}{F':List D->OB}(F:dN K x st)(B:∃h,K.In h/\h.Ns mainGlobals mg)(g:FS)(N:List Str)(n:Nat)
  (hb:∀ {f:Addr}{cf:Value}{A:Around}{outer:List PySem.Env}{s:Shared}{H:Hp}{E:XK},N.Nodup->cC k (A.deeper (envOfC x (ax st) s.heap.objs.size f cf))->(A.deeper (envOfC x (ax st) s.heap.objs.size f cf)).units+40<cLine->(∀c P,PySem.W.tabIn K x=some (c,P)->cf=.ref c)->rg (dG ml P w K mg base N x (ax st) f cf A outer s H E).nox (bp st) g)
  (S:FnScope N (N.take n) (ax st):=by refine⟨rfl,rfl,rfl,?_,rfl,?_,?_⟩<;>decide +kernel)
  (wn:∀(kV doc pm:Value)(an:Option Addr)(cf ct:Value)(us:List Value),us.length=(N.take n).length->bindArgs (fnOf x x (cS st) (bp st) (ax st) .none kV doc pm an cf ct) ⟨us,[]⟩=pure ((N.take n).zip us):=by
   exact λ_ _ _ _ _ _=>AL _ _ (by(repeat intro);rfl))
  (e:aR g (N.take n).length (N.length - (N.take n).length)=F':=by rfl):
  Fn P w K mg base (k+1) x F':=let ⟨_,X,G⟩:=B;e ▸ F.fnL X G S wn λ_ _ _ _ _ _ _ hc hr=>hb S.nd hr (Dk hr) hc
theorem dN.fq {x:Str}{st:Stmt}{k:Nat}{F':List D->OB}(F:dN K x st)(B:∃h,K.In h/\h.Ns mainGlobals mg)(g:FS)(N:List Str)(n:Nat)
  (hb:∀ {f:Addr}{cf:Value}{A:Around}{outer:List PySem.Env}{s:Shared}{H:Hp}{E:XK},N.Nodup->cC k (A.deeper (envOfC x (ax st) s.heap.objs.size f cf))->(A.deeper (envOfC x (ax st) s.heap.objs.size f cf)).units+40<cLine->rg (dG ml P w K mg base N x (ax st) f cf A outer s H E).nox (bp st) g)
  (S:FnScope N (N.take n) (ax st):=by refine⟨rfl,rfl,rfl,?_,rfl,?_,?_⟩<;>decide +kernel)
  (wn:∀(kV doc pm:Value)(an:Option Addr)(cf ct:Value)(us:List Value),us.length=(N.take n).length->bindArgs (fnOf x x (cS st) (bp st) (ax st) .none kV doc pm an cf ct) ⟨us,[]⟩=pure ((N.take n).zip us):=by
   exact λ_ _ _ _ _ _=>AL _ _ (by(repeat intro);rfl))
  (e:aR g (N.take n).length (N.length - (N.take n).length)=F':=by rfl):
  Fn P w K mg base (k+1) x F':=F.fqL B g N n (λn r u _=>hb n r u) S wn e
end
section
variable {X:Cx}{x:Str}{pos:Pos}
theorem AM (i:Nat)(hN:X.N.Nodup)(hi:X.N[i]? = some x:=by rfl)(hx:EK X.env.scope x:=by first|exact Or.inl rfl|exact Or.inr rfl)(hf:X.fn x=true∨X.env.scope.names.lookup x=some .local:=by first|exact .inl rfl|exact .inr rfl):PG X (.Name x pos) (gI i):=w6 hN hi hx hf
theorem IU {fp}(i:Nat)(hN:N'.Nodup:=by decide +kernel)(hi:(gB X N' scope cl C s H fp).N[i]? = some x:=by rfl)(hx:EK (gB X N' scope cl C s H fp).env.scope x:=by exact Or.inl rfl)(hf:(gB X N' scope cl C s H fp).fn x=true∨(gB X N' scope cl C s H fp).env.scope.names.lookup x=some .local:=by first|exact .inl rfl|exact .inr rfl):PG (gB X N' scope cl C s H fp) (.Name x pos) (gI i):=w6 hN hi hx hf
theorem gy (N':List Str)(hi:JI X tg cj fi)(hc:∀ {C s H fp},JC (gB X N' scope (dS scope.names X.env.cells []) C s H fp) oo fc)(he:∀ {C s H fp},JE (gB X N' scope (dS scope.names X.env.cells []) C s H fp) oF fe)
  (wl:EU X.K nT lQ g:=by first|exact rM (by decide)|exact Ff (by decide)) (hg:∀ {C s H fp},PG (gB X N' scope (dS scope.names X.env.cells []) C s H fp) tg g:=by intros;first|exact IU 0|exact qo rfl (eP (IU 0) (eP (IU 1) mi)))
  (cp:kX X N' scope (dS scope.names X.env.cells []) nT cap:=by repeat first|exact .nil rfl|refine Po rfl rfl ?_)
  (S:CompSc X scope (dS scope.names X.env.cells []):=by exact Kx) (iF:X.calm=true:=by rfl)
  (hs:∀x,foldedSetIterable cj X.env x=pure x:=by intro _;rfl):
  JE X (.ListComp oF [⟨tg,cj,oo,0⟩] scope pos) (bP fi nT cap lQ fc fe):=Dc iF S cp hi (λ_ _ _ _=>hg) wl (λ_ _ _ _=>hc) (λ_ _ _ _=>he) hs
theorem mW (N':List Str)(hN:X.N.Nodup)(hi:JI X tg cj fi)(hc:∀ {C s H fp},JC (gB X N' scope (dS scope.names X.env.cells []) C s H fp) oo fc)(he:∀ {C s H fp},JE (gB X N' scope (dS scope.names X.env.cells []) C s H fp) oF fe)
  (wl:EU X.K nT lQ g:=by first|exact rM (by decide)|exact Ff (by decide)) (hg:∀ {C s H fp},PG (gB X N' scope (dS scope.names X.env.cells []) C s H fp) tg g:=by intros;first|exact IU 0|exact qo rfl (eP (IU 0) (eP (IU 1) mi)))
  (cp:kX X N' scope (dS scope.names X.env.cells []) nT cap:=by repeat first|exact .nil rfl|refine Po rfl rfl ?_)
  (LA:X.N[i]? = some y:=by rfl) (hy:X.env.kindOf y=some .local:=by rfl)
  (EA:swapsWith (.ListComp oF [⟨tg,cj,oo,0⟩] scope pos) (some (.Name y py)) spos.line X.env=pure true:=by rfl)
  (S:CompSc X scope (dS scope.names X.env.cells []):=by exact Kx) (iF:X.calm=true:=by rfl)
  (hs:∀x,foldedSetIterable cj X.env x=pure x:=by intro _;rfl):
  JS X (.Assign [.Name y py] (.ListComp oF [⟨tg,cj,oo,0⟩] scope pos) spos) (aP i (bP fi nT cap lQ fc fe)):=De iF hN LA hy EA S cp hi (λ_ _ _ _=>hg) wl (λ_ _ _ _=>hc) (λ_ _ _ _=>he) hs
theorem sK (hi:JI X tg cj fi)(hg:PG X tg t)(ht:Cp X.K lQ t)(hb:rg X body g)(hp:PassesOwn (model X.prog X.w) X.A X.env X.xe:=by exact PassesOwn.never)(hc:X.calm=true:=by rfl)
  (hs:∀x,foldedSetIterable cj X.env x=pure x:=by intro _;rfl):JS X (.For tg cj body [] pos) (mD fi lQ g):=GR hp hc hi hg ht hb hs
theorem AN (hi:PI X tg cj (IN X.K fi))(hg:PG X tg t)(ht:Cp X.K lQ t)(hb:rg X body g)(hp:PassesOwn (model X.prog X.w) X.A X.env X.xe:=by exact PassesOwn.never)(hc:X.calm=true:=by rfl)
  (hs:∀x,foldedSetIterable cj X.env x=pure x:=by intro _;rfl):JS X (.For tg cj body [] pos) (gK fi lQ g):=Dj hp hc hi hg ht hb hs
end
@[simp] abbrev fV (i:Nat)(g:FA):FA:=ag (ah i) g
@[simp] abbrev fI (n:Int):FE:=fC (.int n)
@[simp] abbrev fS (s:PySem.Str):FE:=fC (.str s)
section
variable {X:Cx}{es:List Expr}{g:FA}{pos:Pos}
theorem bt {x:Str}{p:Pos}(i:Nat)(hr:JA X es g)(hN:X.N[i]? = some x:=by rfl)(hv:Cm X.env.scope x:=by first|exact Or.inl rfl|exact Or.inr (Or.inl rfl)|exact Or.inr (Or.inr rfl))(hd:(x == ("__debug__" : Str))=false:=by decide)(gH:(x == ("__classdict__" : Str))=false:=by decide)
  (hs:starEach (.Name x p::es) X.env=(false,eval (.Name x p) X.env)::starEach es X.env:=by rfl):JA X (.Name x p::es) (fV i g):=ae (af i hN hv hd gH) hr hs
theorem ng {i:Int}{j:Nat}(hr:JA X es g):JA X (.Constant (.int i) j pos::es) (ag (fC (.int i)) g):=ae aC hr
theorem bc (F:Fn X.prog X.w X.K X.mg X.base k x f)(hr:cC j X.A)(ha:JA X (e::es) g:=by repeat first|exact aj|refine bt _ ?_|refine ae ai ?_)(hj:k<=j:=by decide)(hg:Gl X x:=by rfl)(jW:(x == ("__debug__" : Str))=false:=by decide)(he:starEach (e::es) X.env=(false,eval e X.env)::starEach es X.env:=by rfl)(hpl:(backTo pos (starEach es X.env)).any (·.1)=false:=by rfl):JE X (.Call (.Name x p) (e::es) [] pos) (fA f g):=wN F (hr.mono hj) ha hg jW he hpl
theorem bv (he:JE X e f):rg X [.Return (some e) pos] (aI f):=cO (Am he)
theorem br {c:Expr}{fc:FT}(hc:JT X c fc)(he:JE X e f):JS X (.If c [.Return (some e) p] [] pos) (cY fc (aI f) aJ):=lG hc (cO (Am he)) iO
theorem bg (i:Nat)(hN:X.N[i]? = some x:=by rfl)(hv:Cm X.env.scope x:=by first|exact Or.inl rfl|exact Or.inr (Or.inl rfl)|exact Or.inr (Or.inr rfl))(hd:(x == ("__debug__" : Str))=false:=by decide)(gH:(x == ("__classdict__" : Str))=false:=by decide):JE X (.Subscript (.Name x p) (.Constant (.int n) j q) pos) (eF i n):=eI (af i hN hv hd gH) aC
end
structure FnD (P:Program)(w:World)(K:Frag)(mg:Str->Option Value)(base:Heap)(k:Nat)(x:Str)(f:List D->OB):Prop where
 ex:∃(ad:Addr)(fd:FuncData)(ps:List Str),fH P w K mg base ml k ad fd ps (Cr K f)/\mg x=some (.ref ad)/\PySem.W.keepIn K (.ref ad)=true/\fm K fd ps []/\fm K fd ps [.none]
theorem FnD.fn {P:Program}{w:World}{K:Frag}{mg:Str->Option Value}{base:Heap}(F:FnD P w K mg base k x f):Fn P w K mg base k x f:=let ⟨ad,fd,ps,h1,h2,h3,h4,_⟩:=F.ex;⟨ad,fd,ps,h1,h2,h3,h4⟩
end DL
namespace DL
open PySem PySem.Spec PySem.W PyProof.Rows L2
def Kz (ns:List Int):Prop:=∀i∈ns,Builtin.Int.intBits i<=1048576
abbrev Hg:D->D->OB:=o6 (λi j=>decide (Builtin.Int.intBits i<=2097152/\Builtin.Int.intBits j<=2097152)) λi j=>.int (i*j)
theorem Hh {X:Cx}:cA X (binaryOp .Mult) (rD X.K Hg):=ie (C:=λi j=>Builtin.Int.intBits i<=2097152/\Builtin.Int.intBits j<=2097152) (g:=λi j=>.int (i*j)) (Gw λ_ _ _ _ _ _ _ hc q=>mul_int q (IntMulOk.of_le hc.1 hc.2 (by decide))) (λ_ _ h=>of_decide_eq_true h) λ_ _ _=>.int _
theorem Hi {ns:List Int}(h:WData.layableAll [WData.list (ns.map WData.int)]=true):Kz ns:=λi hi=>by
 have h1:(WData.list (ns.map WData.int)).layable=true:=layableW_arg h _ (List.mem_singleton.mpr rfl);have h2:=layableW_item h1 (WData.int i) (List.mem_map.mpr ⟨i,hi,rfl⟩);unfold WData.layable at h2;have h3:=of_decide_eq_true (vD _ _ ▸ h2).2;unfold WData.weight at h3;unfold Builtin.Int.intBits;omega
theorem walkB {l:PySem.W.OpenLaw}{q:Program}{LU:List Str}{XP:(Str->Option Value)->Heap->Prop}{YP:World->Heap->Prop}{d:DefRec}{K:Params->Frag}{k:Nat}{x:Str}{f:List D->OB}{L:List (Str×Option (Addr×Addr))}(hn:l.most=some 63)(Sc:d.params.defaults=[])(hr:cC k callerA)
  (hY:∀(w:World)(h:Heap),YP w h->(K w.params).In h) (hT:∀w:World,mz (K w.params) L) (hD:(L.all λp=>p.2.isNone || ((recsOf q).find? λe=>e.name == p.1).isSome)=true)
  (F:∀(w:World)(mg:Str->Option Value)(fa:Addr)(h:Heap),(K w.params).In h->h.Ns mainGlobals mg->mg d.name=some (.ref fa) ->
   ∃fd:FuncData,(∀(s:Shared)(u:Value),BindsTo s fd ⟨[u],[]⟩ [(x,u)])/\∀base:Heap,(K w.params).In base->base.Ns mainGlobals mg->fH l.prog w (K w.params) mg base ml k fa fd [x] (Cr (K w.params) f))
  (ht:∀ns:List Int,ns.length<=63->Kz ns->∃b,f [.lst (ns.map .int)]=some (.bl true,b)):PySem.W.WalkO q LU XP YP l.row.toRowW d [] (λf vs=>PySem.call f vs):=by
 intro w s₀ s₁ mg mb G Y fa o pm cd doc dV kV ho hd gH hD' hmg hg args vals as E8 hlay hrd Ob hlo;obtain rfl:dV=.none:=Dflts.none hD' Sc;obtain rfl:kV=.none:=Dflts.noKw hD';obtain⟨a,vs,ns,rfl,rfl,OD,LV,bC⟩:=Att.yr hn E8 Ob;have KX:=hY w _ Y;obtain⟨fd,hb,hF⟩:=F w mg fa _ KX G.T.g hmg;refine enter_call (codeAny_mono (yz (qE L) (λb u e=>?_) (hT w).none KX G.T.g G.T.b G.T.builtins G.T.nolimit G.T.bmain hg OD LV (vR bC (by decide)) hr hF hb λH hH hS=>?_) λr s' hq=>?_)
 ·obtain⟨p,hp,e2⟩:=List.mem_filterMap.mp (iS e);obtain⟨⟨c,P⟩,e3,e4⟩:=oY e2;cases e4
  have OE:=uR hD p hp;rw[e3]at OE;rw[Option.isNone_some,Bool.false_or]at OE;obtain⟨r,LW⟩:=Option.isSome_iff_exists.mp OE;have Sd:PySem.W.tabIn (K w.params) p.1=some (c,P):=by
   rw[(hT w).names]at hp;obtain⟨y,_,rfl⟩:=vO hp;exact e3
  obtain⟨h1,h2⟩:=PySem.W.tab_of G.T KX LW Sd;exact⟨h2,(h1.tab h2).isCodeTable⟩
 ·obtain⟨b,e⟩:=ht ns bC (Hi hlay);exact⟨H,_,_,b,⟨.refl H,(hT w).tb hH⟩,.cons (.lst hS (.flat rfl)) .nil,e,λv H' N x' i' _=>by cases i';rfl⟩
 ·obtain⟨rfl,h2,h3,h4⟩:=hq;exact⟨.inl ⟨.bool true,.bool true,[],rfl,λ_=>rfl,.bool true,Att.yt l _,λ_=>⟨List.Pairwise.nil,λ_ hm=>(nomatch hm)⟩⟩,h2,h3,h4⟩
structure OneK (α:Type)[DecidableEq α] where
 v:α->V
 ev:Value->α->Bool
 as:List D->Option (List α)
 IC:∀ {a:α}{u:Value},aL (v a) u->∀b,ev u b=decide (a=b)
 eq:∀ {A:Around}{s:Shared}{a b:α}{u u':Value},aL (v a) u->aL (v b) u'->PySem.SeqAt.EqAt A s u u' (ev u b)
 is:∀ {K:Frag}{B:Hp}{ws:List V}{ds:List D}{l:List α},IsL K B ws ds->as ds=some l->ws=l.map v
theorem dm {n:Nat}(h:n<=200000):n<=sizeLine:=by rw[sizeLine_eq];omega
section
variable {X:Cx}
abbrev Pp:D->D->OB:=o6 (λ_ _=>true) λi j=>.int (Builtin.bitOr i j)
abbrev K0:D->D->OB:=o6 (λi j=>decide (0<=j/\j<=1000000/\i.natAbs<18446744073709551616)) λi j=>.int (i*2 ^ j.toNat)
theorem Nv:cA X (binaryOp .BitOr) (rD X.K Pp):=eQ J7 λ_ _ _=>.int _
theorem K4:cA X (binaryOp .LShift) (rD X.K K0):=ie G2 (λi j h=>by have h:=of_decide_eq_true h;unfold C9;omega) λ_ _ _=>.int _
@[simp] noncomputable def iT:List D->OB
 |[.int i]=>if i.natAbs.log2<1920 then some (.str (toString i),false)else none
 |[.str x]=>some (.str x,false)
 |_=>none
theorem sL:bN X (.type "str") (zG X.K iT):=by
 intro ac s σ H xs us Q I rs q;obtain⟨B,ds,d,b,sB,i,e,q⟩:=q;cases i with
 |nil=>cases e
 |cons i1 i=>
  cases i with
  |cons _ _=>cases i1<;>cases e
  |nil=>
   obtain⟨u,rfl,r⟩:=gu rs;cases i1<;>try (cases e;done)
   ·rename_i n;simp only[iT]at e;split at e
    ·rename_i hn;cases e
     obtain⟨t,rfl⟩:=r;exact PySem.P.str_of_int hn ⟨.str _,H,I.tok _,⟨_,rfl⟩,q.one sB (.str _)⟩
    ·cases e
   ·cases e
    obtain⟨t,rfl⟩:=r;exact PySem.P.str_of_str ⟨.str _,H,I,⟨_,rfl⟩,q.one sB (.str _)⟩
@[simp] noncomputable def K5:List D->OB
 |[.str x]=>(PySem.intText? x).bind λn=>if x.length<=640 then some (.int n,false)else none
 |_=>none
theorem Hj:bN X (.type "int") (zG X.K K5):=by
 intro ac s σ H xs us Q I rs q;obtain⟨B,ds,d,b,sB,i,e,q⟩:=q;cases i with
 |nil=>cases e
 |cons i1 i=>
  cases i with
  |cons _ _=>cases i1<;>cases e
  |nil=>
   obtain⟨u,rfl,r⟩:=gu rs;cases i1<;>try (cases e;done)
   obtain⟨n,hn,e⟩:=oX e;split at e
   ·rename_i hl;cases e
    obtain⟨t,rfl⟩:=r;exact PySem.W.KIN.call_text hn hl ⟨.int _,H,I.tok _,⟨_,rfl⟩,q.one sB (.int _)⟩
   ·cases e
noncomputable def QC (y x:Str):Bool:=!(Builtin.Str.occurrences x y 0 x.length 1).isEmpty
@[simp] def Pq:D->D->OB
 |.str y,.str x=>some (.bl (QC y x),false)
 |_,_=>none
theorem K6:cA X (compareOp .In) (rD X.K Pq):=by
 intro ac s σ H x y v u Q I rx ry q;obtain⟨B,dx,dy,d,b,sB,ix,iy,e,q⟩:=q;cases ix<;>try (cases e;done)
 cases iy<;>try (cases e;done)
 cases e
 obtain⟨t,rfl⟩:=rx;obtain⟨t',rfl⟩:=ry;exact PySem.P.in_str ⟨.bl _,H,I,rfl,q.one sB (.bl _)⟩
theorem qL {ac:List (Addr×Obj)}{s:Shared}{σ:St}{H B:Hp}{ys:List V}{ds:List D}{us:List Value}{Q:VK}{tk:Nat}(I:Inv X ac σ H s)(sB:aQ B H)(q:Fin X.K B H (.lst ds) true Q)(hv:aS ys us)(hl:IsL X.K B ys ds)(hz:ys.length<=sizeLine):
  EP X ac σ Q (.ref s.heap.objs.size) { s with heap:=s.heap.push { cls:=.type "list",data:=.seq us.toArray },toks:=tk }:=by
 have hp:H s.heap.objs.size=none:=I.hok.fresh (vT _);have xt:=Ext.laid (o:=.lst ys) sB hp;exact⟨.ref _,_,I.laid (λb o e=>vZ _ e) (vT _) (show bF X.prog X.w _ _ _ (.lst ys)from ⟨hz,us,0,hv,vY _ rfl⟩),rfl,
  q _ _ _ xt (.lst (fO.of av) (hl.mono xt.bn)) λ_=>⟨_,_,_,rfl,rfl,hp,av,hl.mono xt.bn⟩⟩
theorem p8:∀(tk:Nat)(zs:List Str),aS (zs.map V.str) (strsFrom tk zs)
 |_,[]=>.nil
 |tk,_::zs=>.cons ⟨tk,rfl⟩ (p8 (tk+1) zs)
@[simp] noncomputable def eZ:D->D->OB
 |.str x,.str y=>if 0<y.length/\x.length<=100000 then some (.lst ((Txt.split x y).map .str),true)else none
 |_,_=>none
theorem jr (dx dy:D)(r:D×Bool)(h:eZ dx dy=some r):∃z,dx=.str z:=by
 cases dx<;>first|exact⟨_,rfl⟩|cases h
theorem mo:zF X "str.split" (λx xs H Q=>∃y,xs=[y]/\rD X.K eZ x y H Q):=by
 intro ac s σ H x xs v us Q I rx rs h;obtain⟨y,rfl,B,dx,dy,d,bb,sB,ix,iy,ee,q⟩:=h;obtain⟨u1,rfl,r1⟩:=gu rs;cases ix<;>try (cases ee;done)
 cases iy<;>try (cases ee;done)
 rename_i x y;simp only[eZ]at ee;split at ee
 case isFalse=>cases ee
 rename_i hh;cases ee
 obtain⟨t,rfl⟩:=rx;obtain⟨u,rfl⟩:=r1;have hy:(y.length == 0)=false:=by simp;omega
 have hx:x.length<=sizeLine:=dm (by omega);have hn:(Txt.split x y).length<=sizeLine:=vR (split_le x y) (dm (by omega));unfold Txt.split at q hn;cases h1:(decide (x.length<y.length) || decide (Builtin.Str.strKind x<Builtin.Str.strKind y))
 ·rw[h1,if_neg (by decide)]at q hn;cases hf:(Builtin.Str.occurrences x y 0 x.length (x.length+1)).isEmpty
  ·rw[hf,if_neg (by decide)]at q hn;exact call_meets PySem.F.slot_str_split (typeIs_str _ _ _) PySem.F.entry_str_split (PySem.F.args_str_split_2 _ _) (meets_str_split_sep x y t u h1 hy hf hx hn) (qL I sB q (p8 _ _) (gO _) (by rw[vI];exact hn))
  ·rw[hf,if_pos rfl]at q;exact call_meets PySem.F.slot_str_split (typeIs_str _ _ _) PySem.F.entry_str_split (PySem.F.args_str_split_2 _ _) (meets_str_split_not_found x y t u h1 hy hf) (qL I sB q (ys:=[.str x]) (.cons (show aL (.str x) (.str x t)from ⟨t,rfl⟩) .nil) (gO [x]) (dm (by simp)))
 ·rw[h1,if_pos rfl]at q;exact call_meets PySem.F.slot_str_split (typeIs_str _ _ _) PySem.F.entry_str_split (PySem.F.args_str_split_2 _ _) (meets_str_split_cannot_occur x y t u h1) (qL I sB q (ys:=[.str x]) (.cons (show aL (.str x) (.str x t)from ⟨t,rfl⟩) .nil) (gO [x]) (dm (by simp)))
end
noncomputable def uV:D->Option Str
 |.int i=>if i.natAbs.log2<1920/\(Str.ofString (toString i)).length<=1000 then some (toString i)else none
 |.str x=>if x.length<=1000 then some x else none
 |_=>none
@[simp] def K7 (f:FE)(c:Str)(g:FE):FE:=λρ=>(f ρ).bind λx=>(g ρ).bind λy=>(uV x.1).bind λa=>(uV y.1).bind λb=>if c.length<=1000 then some (.str (Str.empty++a++c++b),false)else none
section
variable {X:Cx}
theorem AO {ac:List (Addr×Obj)}{s:Shared}{σ:St}{H N:Hp}{v:V}{d:D}{u:Value}{z:Str}{Q:Value->Shared->Prop}{E:Value->Shared->Prop}(I:Inv X ac σ H s)(i:Is X.K N v d)(r:aL v u)(e:uV d=some z)
  (h:∀(t:Tok)(tk:Nat),z.length<=1000->Inv X ac σ H { s with toks:=tk }->Q (.str z t) { s with toks:=tk }):wq X (formatField u Str.empty) Q E s:=by
 cases i<;>try (cases e;done)
 ·unfold uV at e;dsimp only at e;split at e
  ·rename_i hn;cases e
   obtain⟨t,rfl⟩:=r;exact wpAny_formatField_int hn.1 (h _ _ hn.2 (I.tok _))
  ·cases e
 ·unfold uV at e;dsimp only at e;split at e
  ·rename_i hn;cases e
   obtain⟨t,rfl⟩:=r;exact wpAny_formatField_str (h t s.toks hn (I.tok _)) (h _ _ hn (I.tok _)) (dm (by omega))
  ·cases e
variable {ea eb:Expr}{f g:FE}{p1 p2 p3 pos:Pos}{k:Nat}
theorem Hk {c:Str}(ha:JE X ea f)(hb:JE X eb g):JE X (.JoinedStr [.FormattedValue ea (-1) none p1,.Constant (.str c) k p2,.FormattedValue eb (-1) none p3] pos) (K7 f c g):=by
 intro ac s σ H Q I h;obtain⟨B,ρ,d,bb,sB,rep,ee,q⟩:=h;obtain⟨⟨x,xb⟩,ex,ee⟩:=oX ee;obtain⟨⟨y,yb⟩,ey,ee⟩:=oX ee;obtain⟨a,Se,ee⟩:=oX ee;obtain⟨b,Sf,ee⟩:=oX ee;split at ee
 case isFalse=>cases ee
 rename_i hc;cases ee
 refine wpAny_JoinedStr (wpAny_FormattedValue_plain (cb (ha ac s σ H (λv H1=>∃N,Ext B N H H1/\Is X.K N v x) I ⟨B,ρ,_,_,sB,rep,ex,λv H1 N x1 i1 _=>⟨N,x1,i1⟩⟩) λu s1 hA=>?_));obtain⟨v,H1,I1,r1,N,x1,i1⟩:=hA;have l0:(Str.empty:Str).length=0:=rfl;refine AO I1 i1 r1 Se λt tk hz I2=>⟨a,t,rfl,dm (by rw[strLen_append];omega),?_⟩;show wpAny _ _ (eval (.Constant (.str c) k p2) X.env) _ _ _;refine cb (ai ac _ σ H1 (λv H2=>∃N2,Ext N N2 H1 H2/\v=.str c) I2 ⟨N,ρ,_,_,x1.nh,rep.mono x1.bn,rfl,λv H2 N2 x2 i2 _=>⟨N2,x2,by cases i2;rfl⟩⟩) λu2 s2 hB=>?_;obtain⟨v2,H2,I3,r2,N2,x2,rfl⟩:=hB;obtain⟨t2,rfl⟩:=r2;refine⟨c,t2,rfl,dm (by rw[strLen_append,strLen_append];omega),?_⟩;show wpAny _ _ (eval (.FormattedValue eb (-1) none p3) X.env) _ _ _;refine wpAny_FormattedValue_plain (cb (hb ac s2 σ H2 (λv H3=>∃N',Ext N2 N' H2 H3/\Is X.K N' v y) I3 ⟨N2,ρ,_,_,x2.nh,(rep.mono x1.bn).mono x2.bn,ey,λv H3 N' x3 i3 _=>⟨N',x3,i3⟩⟩) λu3 s3 hC=>?_);obtain⟨v3,H3,I4,r3,N',x3,i3⟩:=hC;refine AO I4 i3 r3 Sf λt3 tk3 hz3 I5=>⟨b,t3,rfl,dm (by rw[strLen_append,strLen_append,strLen_append];omega),dm (by rw[strLen_append,strLen_append,strLen_append];omega),?_⟩;exact⟨.str _,H3,I5.tok _,⟨_,rfl⟩,q _ _ _ ((x1.trans x2).trans x3) (.str _) (by simp)⟩
end
noncomputable def ci:D->Bool
 |.non=>true
 |_=>false
noncomputable def Fo:D->Bool
 |.non=>true
 |.tup _=>true
 |_=>false
@[simp] noncomputable def Fp:D->D->OB
 |.non,.lst ds=>if ds.all Fo=true then some (.bl (ds.any ci),false)else none
 |_,_=>none
noncomputable def sM:Value->Bool
 |.none=>true
 |_=>false
section
variable {X:Cx}
theorem uX {ac:List (Addr×Obj)}{s:Shared}{σ:St}{H B:Hp}(I:Inv X ac σ H s)(sB:aQ B H){A:Around}(hu:A.units<cLine):∀ {vs:List V}{ds:List D}{us:List Value},aS vs us->IsL X.K B vs ds->ds.all Fo=true->us.any sM=ds.any ci/\∀w∈us,PySem.SeqAt.EqAt A s w .none (sM w)
 |_,_,_,.nil,.nil,_=>⟨rfl,λ_ h=>nomatch h⟩
 |_,_,_,.cons r rr,.cons i ii,h=>by
  rw[List.all_cons,vD]at h;obtain⟨e1,e2⟩:=uX I sB hu rr ii h.2;cases i<;>try (cases h.1;done)
  ·cases r
   refine⟨by rw[List.any_cons,List.any_cons,e1];rfl,λw hw=>?_⟩;rcases vP hw with rfl|hw
   ·exact PySem.SeqAt.EqAt.same _
   ·exact e2 w hw
  ·rename_i hq hl;cases r
   refine⟨by rw[List.any_cons,List.any_cons,e1];rfl,λw hw=>?_⟩;rcases vP hw with rfl|hw
   ·obtain⟨its,_,p,_⟩:=I.tuple (aZ sB hq);exact PySem.SeqAt.EqAt.tuple_none p hu
   ·exact e2 w hw
theorem AQ (hu:X.A.units+40<cLine):cA X (compareOp .In) (rD X.K Fp):=by
 intro ac s σ H x y v u Q I rx ry q;obtain⟨B,dx,dy,d,b,sB,ix,iy,e,q⟩:=q;cases ix<;>try (cases e;done)
 cases iy<;>try (cases e;done)
 rename_i hq hl;simp only[Fp]at e;split at e
 ·rename_i ha;cases e
  cases rx
  cases ry
  obtain⟨its,r,pl,hz⟩:=I.list (sB.seq hq);have h:=λ(A:Around) (hA:A.units<cLine)=>uX I sB (A:=A) hA r hl ha;refine SeqAt.in_listAt sM pl.isList (λw hw=>(h _ ?_).2 w (by simpa using hw)) ⟨.bl _,H,I,rfl,?_⟩
  ·exact show X.A.units+1<cLine by omega
  ·rw[show its.toArray.any sM=its.any sM by simp,(h X.A (by omega)).1];exact q.one sB (.bl _)
 ·cases e
end
end DL
namespace DL
open PySem PySem.Spec PyProof.Rows L2
theorem D6 {prog:Program}{w:World}{A:Around}(hA:A.handled=none)(it:Addr)(z:Str)(t:Tok)(n:Nat)(hn:z.cps[n]? = none):Draws prog w A it [it] n (λ_ _=>True) (λi h=>h.IsStrIter it "str_ascii_iterator" z t i/\i=n) where
 live:=λi h st=>let ⟨o,e,_⟩:=st.1;⟨o,e⟩
 frame:=λi h h' st kk=>⟨let ⟨o,e,r⟩:=st.1;⟨o,kk it (by simp) o e,r⟩,st.2⟩
 item:=λi s Q E hi st q=>absurd st.2 (vS hi)
 done:=λs Q E st q=>wpAny_nextOf_ascii_end hA st.1 hn q
noncomputable def Hl (z:Str):It:=⟨λi _=>i<z.cps.size,λi H v H'=>∃T c,v=.ref T/\H T=none/\H'=upd H T (.tup [.int i,.str ⟨#[c]⟩])/\z.cps[i]? = some c,λi _=>z.cps.size<=i⟩
theorem va {P:Program}{w:World}{K:Frag}{es:List Expr}{kt:Nat}{pt:Pos}{z:Str}{t:Tok}{e it:Addr}(OF:e≠it):
  Turn P w K (.Tuple es kt pt) (Hl z) [e,it] e (λi h=>(∃FL,IsEnum h e it i FL)/\h.IsStrIter it "str_ascii_iterator" z t i) where
 mem:=by simp
 obj:=λi h st b hb=>by
  obtain⟨⟨FL,he⟩,t1⟩:=st;simp at hb;rcases hb with rfl|rfl
  ·exact⟨_,he,λv z=>by cases z⟩
  ·obtain⟨o,e1,_,d1⟩:=t1;exact⟨o,e1,λv zz=>by rw[d1]at zz;cases zz⟩
 keep:=λi h h' st kk=>by
  obtain⟨⟨FL,he⟩,o,e1,r⟩:=st;exact⟨⟨FL,kk e (by simp) _ he⟩,o,kk it (by simp) o e1,r⟩
 item:=by
  intro X hP hw hK hc i ac s σ H E I hf st hg;subst hP hw hK;obtain⟨⟨FL,he⟩,t1⟩:=st;have Cz:i<z.cps.size:=hg;have fresh:H s.heap.objs.size=none:=I.hok.fresh (vT _);have z6:e≠s.heap.objs.size:=vS (vX he);have Sg:it≠s.heap.objs.size:=by obtain⟨o,q,_⟩:=t1;exact vS (vX q)
  refine wpAny_pyNext_enum_itemD (Draws.strAscii (A:=X.A.in1) (I.ok.hd hc) it z t) he t1 Cz OF (by simp[OF]) λv h' tk hv ho oj hT hsz hk=>?_;obtain⟨c,u,F9,rfl⟩:=hv;refine⟨_,rfl,wpAny_letOwnedTupleGo_enum (s:={ s with heap:=h',toks:=tk+1 }) ho λh2 FN s2=>?_⟩;have C0:Heap.SameBut e h' h2:=s2;have kk:∀b o,b∉[e,it]->s.heap.get? b=some o->h2.get? b=some o:=λb o hb q=>C0.extBut _ _ (λz=>hb (by simp[z])) (hk b o (λz=>hb (by simp[z])) (λz=>hb (by simp[z])) q);have new:bF X.prog X.w (upd H s.heap.objs.size (.tup [.int i,.str ⟨#[c]⟩])) h2 s.heap.objs.size (.tup [.int i,.str ⟨#[c]⟩]):=⟨by show 2<=sizeLine;decide,[.int i tk,.str ⟨#[c]⟩ u],.cons ⟨tk,rfl⟩ (.cons ⟨u,rfl⟩ .nil),⟨_,C0.extBut _ _ z6.symm hT,rfl,_,rfl⟩⟩;refine⟨.ref s.heap.objs.size,upd H s.heap.objs.size (.tup [.int i,.str ⟨#[c]⟩]),Ax (s:=s) (t':=tk+1) I hf kk (vT _) new,rfl,⟨_,c,rfl,fresh,rfl,F9⟩,?_,λb hb=>?_⟩
  ·refine⟨⟨_,by have:=FN;rw[show((i:Int)+1)=((i+1:Nat):Int) by omega]at this;exact this⟩,?_⟩;obtain⟨o,e1,r⟩:=oj;exact⟨o,C0.extBut _ _ OF.symm e1,r⟩
  ·have ye:b≠s.heap.objs.size:=by
    simp at hb;rcases hb with rfl|rfl
    ·exact z6
    ·exact Sg
   rw[aA ye];exact(hf b hb).1
 done:=by
  intro X hP hw hK hc i ac s σ H E I hf st hg;subst hP hw hK;obtain⟨⟨FL,he⟩,t1⟩:=st;have Cz:z.cps.size<=i:=hg;refine wpAny_pyNext_enum_endD (D6 (A:=X.A.in1) (I.ok.hd hc) it z t i (by simp;omega)) he ⟨t1,rfl⟩ λh' hk=>⟨rfl,?_⟩;exact mm (t':=s.toks) I hf λb o hb q=>hk b o (λz=>hb (by simp[z])) q
 self:=λ_ _ _ _ _ st h=>let ⟨⟨_,he⟩,_⟩:=st;wpAny_pyIter_enum he h
section
variable {X:Cx}{a b e:Expr}{pos:Pos}{p:Pos}
@[simp] def AR (fa:FE):FA:=λρ=>(fa ρ).bind λx=>match x.1 with
 |.str z=>if z.cps.all (· < 128)=true then some (xl (kj z))else none
 |_=>none
theorem AS {K:Frag}{N:Hp}(z:Str):lS K (Hl z) N (xl (kj z)):=by
 intro i H' sm;refine⟨λd ed=>?_,λhl=>?_⟩
 ·unfold xl kj at ed;rw[List.getElem?_mapIdx,vB]at ed;obtain⟨x,e1,rfl⟩:=oY ed;obtain⟨c,ec,rfl⟩:=oY e1;have LG:z.cps[i]? = some c:=by simpa using ec
  refine⟨(Array.getElem?_eq_some_iff.mp LG).1,λr H2 hy=>?_⟩;obtain⟨T,c',rfl,hT,rfl,e3⟩:=hy;rw[LG]at e3;cases e3;have xt:=Ext.laid (o:=.tup [.int i,.str ⟨#[c]⟩]) sm hT;exact⟨_,xt,.tup (gA.of av) (.cons (.int _) (.cons (.str _) .nil))⟩
 ·unfold xl kj at hl;show z.cps.size<=i;simpa using hl
theorem AT {es:List Expr}{kt:Nat}{pt:Pos}{fa:FE}(hm:X.mg "enumerate" = none)(ha:JE X a fa)(hg:Gl X "enumerate":=by rfl)(hs:starEach [a] X.env=[(false,eval a X.env)]:=by rfl):
  JI X (.Tuple es kt pt) (.Call (.Name "enumerate" p) [a] [] pos) (AR fa):=by
 intro ac s σ H R I q;refine Call_ (hU I hg hm sj (PyProof.Rows.callWith_type1 (cb (ae ha aj hs pos ac s σ H (λvs H1=>∃z:Str,vs=[.str z]/\z.cps.all (· < 128)=true/\R (Hl z) H1) I ?_) λus s1 ⟨vs,H1,I1,r1,q1⟩=>?_) hs rfl))
 ·obtain⟨B,ρ,ds,sB,r,ee,q⟩:=q;obtain⟨x1,ex,ee⟩:=oX ee;split at ee
  ·rename_i z hz;split at ee
   ·rename_i BY;cases ee
    refine⟨B,ρ,[x1.1],sB,r,by simp[ag,al,ex],λvs H1 N1 xt i1=>?_⟩;cases i1 with
    |cons j1 j2=>
     cases j2
     rw[hz]at j1;cases j1
     exact⟨z,rfl,BY,q _ H1 N1 xt (AS z)⟩
   ·cases ee
  ·cases ee
 ·obtain⟨z,rfl,BY,q⟩:=q1;obtain⟨u1,rfl,t,rfl⟩:=r1.one;refine call_enumerate_str λh' c1 c2 hsz ck=>?_;have c2:h'.IsStrIter s1.heap.objs.size "str_ascii_iterator" z t 0:=by simpa [strIterType,BY]using c2
  refine wpAny_pyIter_enum c1 ⟨s1.heap.objs.size+1,[s1.heap.objs.size+1,s1.heap.objs.size],_,_,H1,rfl,I1.kept (t':=s1.toks) ck,
   va (Nat.succ_ne_self _),⟨⟨_,c1⟩,c2⟩,λb hb=>?_,q⟩
  have zI:s1.heap.objs.size<=b:=by
   simp at hb;rcases hb with rfl|rfl
   ·exact Nat.le_succ _
   ·exact vT _
  exact I1.fpOk zI (I1.hok.fresh zI)
end
end DL
namespace EX
open PySem PySem.W
open Sem (wp)
noncomputable abbrev Hm:List Value:=[.type "ValueError",.type "Exception",.type "BaseException",.type "object"]
section
variable {prog:Program}{w:World}{A:Around}{E:Value->Shared->Prop}{h:Heap}{g:Array GenState}{d:Drawn}{t:Nat}{os:OsState}
variable {nm q:Str}{C N:Addr}{bs bm LX:List Value}{hdct:Bool}{sn:List Str}{sub:List Value}{ab:Bool}{col:Option Bool}{dd:Option Addr}{k0 k1 k2 k3 k5:Option Value}{B newId wt:String}
theorem yO {K:Frag}(X:K.In h)(F:ExcBaseFacts B newId wt LX)(O:OwnTail h LX bm){rest:List Value}{fI:Addr}{oI:Obj}{Q:Fin->Shared->Prop}
  (hC:h.get? C=some (excClassObj nm q C N bs bm hdct sn sub ab col dd k0 k1 k2 k3 k5 newId)) (hi:findIn K (.ref C) "__init__" = some (some (.ref fI)))
  (OG:h.get? fI=some oI) (OH:oI.cls=.type "function")
  (hq:∀h' e,Heap.MadeExcOf h h' e (.ref C) rest->h.objs.size<=e ->
   wpAny (model prog w) A (call (.ref fI) (.ref e::rest)) (λr s'=>r=.none/\Q (.done (.ret (.ref e))) s') E ⟨h',g,d,t,os⟩) (hrest:rest.length<=sizeLine:=by size_fits):
  wpAny (model prog w) A (Builtin.«type.__call__» ⟨.ref C::rest,[]⟩) Q E ⟨h,g,d,t,os⟩:=by
 repeat (first|with_reducible refine wpAny_loadPart_at hC ?_|with_reducible refine wpAny_madeBy_exc hC ?_|wp_step)
 refine codeAny_call_builtin_code (Code.quiet_builtin _ F.quiet) (wpAny_check_new_subT F O hC ?_);refine codeAny_exc_new_subT F O hC ?_ hrest;show wpAny _ _ _ _ _ _;have kp:∀b o,h.get? b=some o->((h.push { cls:=.type "tuple",data:=.seq rest.toArray }).push { cls:=.ref C,data:=.fields #[.ref h.objs.size,.none,.none,.none,.bool false,.none] }).get? b=some o :=
  λb o e=>vZ _ (vZ _ e)
 have LY:=kp _ _ hC;have ID:=kp _ _ OG;have EF:((h.push { cls:=.type "tuple",data:=.seq rest.toArray }).push
   { cls:=.ref C,data:=.fields #[.ref h.objs.size,.none,.none,.none,.bool false,.none] }).get? (h.objs.size+1)=some
   { cls:=.ref C,data:=.fields #[.ref h.objs.size,.none,.none,.none,.bool false,.none] }:=by heap_get
 have Sh:(Value.ref C::bm).contains (.ref C)=true:=by simp
 unfold isInstance;repeat (first|with_reducible refine wpAny_loadPart_at EF ?_|(with_reducible refine wpAny_isSubtype_exc LY ?_;rw[Sh])|wp_step)
 show wpAny _ _ (typeLookup (.ref C) _) _ _ _;refine looks_findIn X hi _ _ _ _ kp ?_;refine wpAny_holding (wX ?_);unfold bindSpecial;refine wX (wpAny_typeOf (T:="function") ⟨_,ID,OH⟩ ?_);rw[if_pos (by decide)];refine wY (wX (wpAny_mono (hq _ (h.objs.size+1) ⟨kp,Heap.get?_none_of_le (Nat.le_succ _),h.objs.size,EF,Heap.get?_none_of_le (vT _),?_⟩ ?_) (λr s' hr=>?_) λ_ _ x=>x))
 ·exact vZ _ (Heap.get?_push_at rfl rfl)
 ·exact Nat.le_succ _
 ·obtain⟨rfl,hQ⟩:=hr;wp_walk;exact hQ
theorem AU {K:Frag}(X:K.In h)(F:ExcBaseFacts B newId wt LX)(O:OwnTail h LX bm){rest:List Value}{fI:Addr}{oI:Obj}{Q:Value->Shared->Prop}
  (hC:h.get? C=some (excClassObj nm q C N bs bm hdct sn sub ab col dd k0 k1 k2 k3 k5 newId)) (hi:findIn K (.ref C) "__init__" = some (some (.ref fI)))
  (OG:h.get? fI=some oI) (OH:oI.cls=.type "function")
  (hq:∀h' e,Heap.MadeExcOf h h' e (.ref C) rest->h.objs.size<=e ->
   wpAny (model prog w) (A.under (.builtin "type.__call__" ⟨.ref C::rest,[]⟩)) (call (.ref fI) (.ref e::rest)) (λr s'=>r=.none/\Q (.ref e) s') E ⟨h',g,d,t,os⟩) (hrest:rest.length<=sizeLine:=by size_fits):
  wpAny (model prog w) A (call (.ref C) rest) Q E ⟨h,g,d,t,os⟩:=by
 have f1:=tc_lookup;have f2:=tc_bind (.ref C);have hT:(⟨h,g,d,t,os⟩:Shared).TypeIs (.ref C) "type":=⟨_,hC,rfl⟩;refine wpAny_call (codeAny_of_tree ?_);show wpAny _ _ (callAny (.ref C) _) _ _ _;repeat (any_goals (first|assumption|with_reducible refine wpAny_loadPart_at hC ?_|wp_step))
 refine⟨rfl,?_⟩;refine codeAny_call_builtin_at (Code.quiet_builtin _ (by decide +kernel)) entry_typeCall (wpAny_check_type_call_sub hC (yO (hrest:=hrest) X F O hC hi OG OH λh' e hm hs=>?_));exact hq h' e hm hs
theorem vc {M:Model}{env:PySem.Env}{s:Shared}{x:Sem Value}{Q:Flow->Shared->Prop}(hb:bm.contains (.type "BaseException")=true)(hh:A.handled=none)
  (hx:wpAny M A x (λv s₁=>∃e t0 dx,v=.ref e/\s₁.heap.get? C=some (excClassObj nm q C N bs bm hdct sn sub ab col dd k0 k1 k2 k3 k5 newId) /\
   s₁.heap.get? e=some { cls:=.ref C,dict:=dx,data:=.fields #[.ref t0,.none,.none,.none,.bool false,.none] }/\E (.ref e) s₁) E s):
  wpAny M A (raiseStmt env (some x) none) Q E s:=by
 have Si:(Value.ref C::bm).contains (.type "BaseException")=true:=by rw[List.contains_cons,hb,Bool.or_true]
 unfold raiseStmt;refine wX (wpAny_mono hx (λv s₁ h₁=>?_) λ_ _ x=>x);obtain⟨e,t0,dx,rfl,hC,he,hE⟩:=h₁;obtain⟨hp,g,d,tk,os⟩:=s₁;repeat (first|with_reducible refine wpAny_loadPart_at he ?_|with_reducible refine wpAny_loadPart_at hC ?_|(with_reducible refine wpAny_isSubtype_exc hC ?_;rw[Si])|wp_step)
 exact wpAny_raiseNew_none hh hE
end
end EX
namespace EX
open PySem PySem.W Builtin Builtin.ObjectAttr
open Sem (wp)
section
variable {prog:Program}{w:World}{A:Around}{E:Value->Shared->Prop}{h:Heap}{g:Array GenState}{d:Drawn}{t:Nat}{os:OsState}
variable {nm q:Str}{C N x:Addr}{bs bm LX:List Value}{sn:List Str}{sub:List Value}{ab:Bool}{col:Option Bool}{dd:Option Addr}{k0 k1 k2 k3 k5:Option Value}{B newId wt:String}{name:Str}{v:Value}{o:Obj}
theorem yP {K:Frag}(X:K.In h){tk:Tok}{Q:Fin->Shared->Prop}(hp:∀self:Value,refuseLoop self "__setattr__" bm=pure ())
  (hC:h.get? C=some (excClassObj nm q C N bs bm true sn sub ab col dd k0 k1 k2 k3 k5 newId)) (Cg:findIn K (.ref C) name=some none)
  (hx:h.get? x=some o) (hc:o.cls=.ref C) (Jg:∀c,o.data≠.cls c) (MD:o.dict=none)
  (hq:∀h' EG,h'.get? x=some { o with dict:=some h.objs.size }->h'.Ns1 h.objs.size (λy=>if y=name then some v else none)->(∀b ob,b≠x->h.get? b=some ob->h'.get? b=some ob)->Q (.done (.ret .none)) ⟨h',g,d,EG,os⟩):
  wpAny (model prog w) A (Builtin.«object.__setattr__» ⟨[.ref x,.str name tk,v],[]⟩) Q E ⟨h,g,d,t,os⟩:=by
 have LZ:=hp (.ref x);have L:=looks_findIn (M:=model prog w) X Cg;unfold Builtin.«object.__setattr__»;repeat (first|rw[refuse_eq]|(rw[refuseLoop_ref,LZ])|(with_reducible refine wpAny_loadPart_at hx ?_;rw[hc])|with_reducible refine wpAny_mroOf_exc hC ?_|wp_step)
 refine L _ _ _ _ (λ_ _ e=>e) ?_;repeat (first|(with_reducible refine wpAny_loadPart_at hx ?_;rw[hc])|with_reducible refine wpAny_loadPart_at hC ?_|wp_step)
 rw[MD,if_neg (by simp[typeHasDict])];split
 ·rename_i gH;cases gH
 split
 ·rename_i c gH;exact absurd gH (Jg c)
 ·have FP:(h.push { cls:=.type "dict",data:=.dict #[] }).get? x=some o:=vZ _ hx;have Qu:x≠h.objs.size:=vS (vX hx);refine wX (wpAny_alloc' ?_);refine wX (wpAny_update' FP ?_);refine wY ?_;have Sj:((h.push { cls:=.type "dict",data:=.dict #[] }).update x λo=>{ cls:=o.cls,dict:=some h.objs.size,data:=o.data,slots:=o.slots }).get? h.objs.size
    = some { cls:=.type "dict",data:=.dict #[] } :=
   (Heap.get?_update_ne _ _ _ _ Qu.symm).trans (Heap.get?_push_at rfl rfl)
  have OI:((h.push { cls:=.type "dict",data:=.dict #[] }).update x λo=>{ cls:=o.cls,dict:=some h.objs.size,data:=o.data,slots:=o.slots }).Ns h.objs.size (λ_=>none) :=
   ⟨_,#[],_,Sj,rfl,λe he=>absurd he (by simp),λ_=>rfl⟩
  show wpAny _ _ (storeInDict h.objs.size (.str name tk) name v) _ _ _;unfold storeInDict newKeyGuard;refine wX (wY (wX (wpAny_nsSet1 (Heap.Ns1.of_empty OI) λh' Jb hs=>?_)));obtain⟨oD,Th,Ti,Sk,Sl,EI⟩:=Jb.count (Within.cons name v Within.nil);refine wX (wpAny_lookBehind Sk (by rw[Sl];exact pastItsLine_dict (vR EI (by rw[vE,List.length_nil,sizeLine_eq];omega))) ?_);wp_walk;refine hq h' _ ?_ ?_ (λb ob hbx hb=>?_)
  ·refine(hs.2 x Qu).trans (Heap.get?_update_self _ FP ?_);have z8:=(Heap.get?_some_iff.mp hx).2;obtain⟨oc,od,Qv,kW⟩:=o;cases Qv<;>first|rfl|exact z8
  ·exact Jb
  ·exact(hs.2 b (vS (vX hb))).trans ((Heap.get?_update_ne _ _ _ _ hbx).trans (vZ _ hb))
theorem D7 {K:Frag}(X:K.In h){Q:Unit->Shared->Prop}(hp:∀self:Value,refuseLoop self "__setattr__" bm=pure ())(Sm:mroIn K C (.type "object")=some true)
  (hC:h.get? C=some (excClassObj nm q C N bs bm true sn sub ab col dd k0 k1 k2 k3 k5 newId)) (hs:findIn K (.ref C) "__setattr__" = some (some (.builtin "object.__setattr__"))) (Cg:findIn K (.ref C) name=some none)
  (hx:h.get? x=some o) (hc:o.cls=.ref C) (Jg:∀c,o.data≠.cls c) (MD:o.dict=none)
  (hq:∀h' EG,h'.get? x=some { o with dict:=some h.objs.size }->h'.Ns1 h.objs.size (λy=>if y=name then some v else none)->(∀b ob,b≠x->h.get? b=some ob->h'.get? b=some ob)->Q () ⟨h',g,d,EG,os⟩):
  wpAny (model prog w) A (setAttr (.ref x) name v) Q E ⟨h,g,d,t,os⟩:=by
 have SF:=PySem.F.store_object;have I:InstAt h x o C none:=⟨hx,hc,by unfold notCls;split<;>first|rfl|(rename_i c q;exact absurd q (Jg c)),by rw[MD];trivial⟩
 refine set_plain X I hs ?_;have sb:Looks (model prog w) h (isInstance (.ref x) (.type "object")) true:=I.type.andThen (looks_mroIn X Sm);refine codeAny_call_builtin SF.slot.plain SF.entry (@check_slot (model prog w) _ _ ⟨h,g,d,t+1,os⟩ "object.__setattr__" "object" "__setattr__" (.ref x) [.str name t,v] [] _ SF.kind SF.split sb (SF.args (.ref x) (.str name t) v) ?_);exact yP X hp hC Cg hx hc Jg MD λh' EG a1 a2 a3=>hq h' EG a1 a2 a3
end
open Sem (wp)
theorem sO:builtinKind "BaseException.__getattribute__" = some .slot:=by decide +kernel
theorem p9:splitId "BaseException.__getattribute__" = some ("BaseException","__getattribute__"):=by decide +kernel
section
variable {prog:Program}{w:World}{A:Around}{E:Value->Shared->Prop}{s:Shared}{K:Frag}{x C:Addr}{ox:Obj}{od:Option Obj}{name:Str}{Ir:Bool}{Q:Value->Shared->Prop}{v:Value}
theorem D8 (X:K.In s.heap)(I:InstAt s.heap x ox C od)(Ma:findIn K (.ref C) "__getattribute__" = some (some (.builtin "BaseException.__getattribute__")))(hk:findIn K (.ref C) "__getattr__" = some none)
  (hb:mroIn K C (.type "BaseException")=some true) (hf:findObj K C od name=some (.value v)) (hh:handedIn v=true) (h:Q v { s with toks:=s.toks+1 }):wpAny (model prog w) A (getAttr (.ref x) name Ir) Q E s:=by
 obtain⟨Jh,g,d,t,os⟩:=s;have L0:=I.type (M:=model prog w);have L1:=looks_findIn (M:=model prog w) X Ma;have L2:=looks_findIn (M:=model prog w) X hk;have L3:=looks_find (M:=model prog w) X I hf;have sb:Looks (model prog w) Jh (isInstance (.ref x) (.type "BaseException")) true:=L0.andThen (looks_mroIn X hb);have FX:=PySem.F.excAttr_ValueError;unfold getAttr getAttrBy;refine wX (wpAny_mkText (wpAny_holding (wX (L0.at (wX (L1.at ?_))))));show wpAny _ _ (getAttrByItsOwn _ _ _ _ _ _) _ _ _;unfold getAttrByItsOwn hookBefore;refine wX ?_;rw[if_pos (show onTheHeap (Value.ref C)=true from rfl)];refine L2.at ?_;refine wX (wpAny_attempt (wpAny_holding ?_));unfold callGetattribute;rw[if_neg (by cases Ir<;>decide)]
 unfold boundAndCalled;refine wX ?_;rw[FX.ga.bind (.ref x)];refine wY ?_;refine wpAny_call (codeAny_call_builtin FX.ga.plain F.entry_bexc_ga (@check_slot (model prog w) _ _ ⟨Jh,g,d,t+1,os⟩ "BaseException.__getattribute__" "BaseException" "__getattribute__" (.ref x) [.str name t] [] _ sO p9 sb (F.args_bexc_ga (.ref x) (.str name t)) ?_));unfold Builtin.«object.__getattribute__»;refine wX (wY (wX (wY (wX (L0.at (wX (L3.at ?_)))))));refine wY ?_;show wpAny _ _ (handedOut v) _ _ _;rw[handedOut_of hh];exact wY h
end
open Sem (wp)
section
variable {prog:Program}{w:World}{A:Around}{E:Value->Shared->Prop}{s:Shared}{K:Frag}{x C:Addr}{ox:Obj}{od:Obj}{name:Str}{v:Value}
theorem D9 {Q:Option Value->Shared->Prop}(X:K.In s.heap)(I:InstAt s.heap x ox C (some od))(Ma:findIn K (.ref C) "__getattribute__" = some (some (.builtin "BaseException.__getattribute__")))(hk:findIn K (.ref C) "__getattr__" = some none)
  (hb:mroIn K C (.type "BaseException")=some true) (hdct:hasDictIn K C=true) (ha:findIn K (.ref C) "__class__" = some (some (.builtin "object.__class__")))
  (hn:specialIn K (.builtin "object.__class__") "__get__" = some (some (.builtin "getset_descriptor.__get__"))) (Jc:takesIn K (.builtin "object.__class__")=some true) (hm:mroIn K C (.type "object")=some true)
  (h:Q (some (.ref C)) { s with toks:=s.toks+1 }):wpAny (model prog w) A (getAttr? (.ref x) "__class__") Q E s:=by
 obtain⟨Jh,g,d,t,os⟩:=s;have L0:=I.type (M:=model prog w);have L1:=looks_findIn (M:=model prog w) X Ma;have L2:=looks_findIn (M:=model prog w) X hk;obtain⟨cd,gH,_⟩:=any_some hdct;have hf:findObj K C (some od) "__class__" = some (.bind (.builtin "getset_descriptor.__get__") (.builtin "object.__class__")):=findObj_data (by rw[gH];rfl) ha hn Jc;have L3:=looks_find (M:=model prog w) X I hf;have sb:Looks (model prog w) Jh (isInstance (.ref x) (.type "BaseException")) true:=L0.andThen (looks_mroIn X hb);have FX:=PySem.F.excAttr_ValueError;unfold getAttr? getAttrBy?;refine wX (wpAny_mkText (wX (wpAny_attempt ?_)));unfold getAttrBy;refine wpAny_holding (wX (L0.at (wX (L1.at ?_))));show wpAny _ _ (getAttrByItsOwn _ _ _ _ _ _) _ _ _;unfold getAttrByItsOwn hookBefore;refine wX ?_;rw[if_pos (show onTheHeap (Value.ref C)=true from rfl)];refine L2.at ?_;refine wX (wpAny_attempt (wpAny_holding ?_));unfold callGetattribute;rw[if_neg (by decide)];unfold boundAndCalled;refine wX ?_;rw[FX.ga.bind (.ref x)];refine wY ?_;refine wpAny_call (codeAny_call_builtin FX.ga.plain F.entry_bexc_ga (@check_slot (model prog w) _ _ ⟨Jh,g,d,t+1,os⟩ "BaseException.__getattribute__" "BaseException" "__getattribute__" (.ref x) [.str "__class__" t] [] _ sO p9 sb (F.args_bexc_ga (.ref x) (.str "__class__" t)) ?_));unfold Builtin.«object.__getattribute__»;refine wX (wY (wX (wY (wX (L0.at (wX (L3.at ?_)))))));show wpAny _ _ (holding [Value.builtin "object.__class__"] (call (.builtin "getset_descriptor.__get__") [.builtin "object.__class__",.ref x,.ref C])>>=ret) _ _ _;refine wX (wpAny_holding (wpAny_call (class_get (s:=⟨Jh,g,d,t+1,os⟩) (ox:=ox) (od:=some od) X I hm ?_)));refine wY ?_;exact wY (wY h)
theorem AV (Ma:findIn K (.ref C) "__getattribute__" = some (some (.builtin "BaseException.__getattribute__")))(hk:findIn K (.ref C) "__getattr__" = some none)
  (hb:mroIn K C (.type "BaseException")=some true) (hdct:hasDictIn K C=true) (ha:findIn K (.ref C) "__class__" = some (some (.builtin "object.__class__")))
  (hn:specialIn K (.builtin "object.__class__") "__get__" = some (some (.builtin "getset_descriptor.__get__"))) (Jc:takesIn K (.builtin "object.__class__")=some true) (hm:mroIn K C (.type "object")=some true):
  KitX K (.ref x) (.ref C) (λh=>∃ox od,InstAt h x ox C (some od)) where
 ty:=λ_ _ _ ⟨_,_,I⟩=>I.type
 it:=λ_ _ X _=>by
  obtain⟨lZ,EI,_⟩:=any_some hdct;unfold clsIn at EI;split at EI
  ·rename_i c' d' cd' Lj ho;intro A' Q' E' s' k q;unfold isType loadHead;exact wX (wpAny_loadPart (k _ _ (X _ _ ho)) (wY q))
  ·cases EI
 ne:=λh tp dd its n sl X htp=>by
  obtain⟨lZ,EI,_⟩:=any_some hdct;refine Bool.eq_false_iff.mpr λq=>?_;have e:C=tp:=Value.ref.inj (beq_iff_eq.mp q);subst e;unfold clsIn at EI;split at EI
  ·rename_i c' d' cd' Lj ho;have z:=(X _ _ ho).symm.trans htp;cases z
  ·cases EI
 ca:=λX ⟨_,_,I⟩ k=>D9 X I Ma hk hb hdct ha hn Jc hm k
end
end EX
namespace EX
open PySem PySem.W
def Kp (fr ch:List Addr)(h h':Heap):Prop:=∀b o,h.get? b=some o->b∉ch->(b∉fr->h'.get? b=some o)/\∃sl,h'.get? b=some { o with slots:=sl }
theorem Kp.trans {fr ch:List Addr}{h h1 h2:Heap}(k1:Kp fr ch h h1)(k2:Kp fr ch h1 h2):Kp fr ch h h2:=λb o e n=>by
 obtain⟨a1,sl,a2⟩:=k1 b o e n;obtain⟨_,Mx,a3⟩:=k2 b _ a2 n;exact⟨λhf=>(k2 b o (a1 hf) n).1 hf,Mx,a3⟩
theorem Kp.more {fr ch ch':List Addr}{h h':Heap}(k:Kp fr ch h h')(s:∀b o,h.get? b=some o->b∈ch->b∈ch'):Kp fr ch' h h':=λb o e n=>k b o e λz=>n (s b o e z)
theorem Kp.other {fr:List Addr}{a:Addr}(h:Heap)(f:Obj->Obj):Kp fr [a] h (h.update a f):=λb o e n=>by
 have:(h.update a f).get? b=some o:=by rw[Heap.get?_update_other _ _ (λz=>n (by rw[z];exact List.mem_singleton.mpr rfl))];exact e
 exact⟨λ_=>this,o.slots,this⟩
theorem Kp.push {fr ch:List Addr}(h:Heap)(o':Obj):Kp fr ch h (h.push o'):=λb o e _=>⟨λ_=>vZ _ e,o.slots,vZ _ e⟩
theorem AW {h:Heap}{a:Addr}{o:Obj}{vs:Array Value}(ho:h.get? a=some o)(hd:o.data=.fields vs)(i:Nat)(x:Value):
  (h.update a (Obj.mapFields (·.setIfInBounds i x))).get? a=some { o with data:=.fields (vs.setIfInBounds i x) }:=by
 have e:Obj.mapFields (·.setIfInBounds i x) o={ o with data:=.fields (vs.setIfInBounds i x) }:=by
  obtain⟨c,d,dt,sl⟩:=o;change dt=.fields vs at hd;subst hd;rfl
 have:=Heap.get?_update_self (Obj.mapFields (·.setIfInBounds i x)) ho (by rw[e];rfl);rw[this,e]
section
variable {M:Model}{A:Around}{E:Value->Shared->Prop}{s:Shared}{base:Heap}{env:Env}{outer:List Env}{L e:Addr}{oe:Obj}{vs:Array Value}
theorem AX {head:Value}{Sn:Bool}{Q:Unit->Shared->Prop}(z8:A.frames=some (env::outer))(hl:s.heap.FunFrames base (env::outer))(hf:env.frame=some L)
  (he:s.heap.get? e=some oe) (hd:oe.data=.fields vs) (hsz:1<vs.size)
  (h:∀h' T oT ts,h'.get? e=some { oe with data:=.fields (vs.setIfInBounds 1 (.ref T)) }->s.heap.objs.size<=T->h'.get? T=some oT->oT.data=.fields ts->ts[3]? = some (rawInt L)->Kp (L::outer.filterMap (·.frame)) [e] s.heap h'->Q () { s with heap:=h' }):
  wpAny M A (frameOf env>>=λa=>entryPlaceOf L Sn>>=λpl=>EntryCells.newEntry head a .none (rawInt L) .none pl>>=λb=>setField (.ref e) 1 b) Q E s:=by
 have Qw:(env::outer).filterMap (·.frame)=L::outer.filterMap (·.frame):=by rw[List.filterMap_cons,hf]
 have ye:e∉L::outer.filterMap (·.frame):=λhm=>by
  obtain⟨_,o,ho,hn⟩:=hl.mem (b:=e) (by rw[Qw];exact hm);rw[he]at ho;cases ho;exact hn vs hd
 refine wX (wpAny_frameOf_fun z8 hl hf λh1 k1=>wX (wpAny_entryPlaceOf λpl hp=>?_));rw[Qw]at k1;have OJ:h1.get? e=some oe:=(k1.2.1 e ye).trans he;unfold EntryCells.newEntry newFields;refine wX (wpAny_newObj_type (wpAny_setField (vZ _ OJ) hd hsz ?_) (hp.sizeOk5 _ _ _ _ _));have nT:h1.objs.size≠e:=Nat.ne_of_gt (vX OJ);refine h _ h1.objs.size _ _ (AW (vZ _ OJ) hd 1 _) ?_ ((Heap.get?_update_other _ _ (Ne.symm nT)).trans (vY h1 rfl)) rfl ?_ ?_
 ·exact Nat.le_of_eq k1.1.symm
 ·first|(simp;done)|(rcases hp with rfl|⟨_,_,_,_,_,_,_,rfl⟩<;>simp)
 ·intro b o hb hn;have Cv:b≠e:=λz=>hn (by rw[z];exact List.mem_singleton.mpr rfl);obtain⟨sl,z⟩:=k1.2.2 b o hb;exact⟨λq=>(Heap.get?_update_other _ _ (Ne.symm Cv)).trans (vZ _ ((k1.2.1 b q).trans hb)),sl,(Heap.get?_update_other _ _ (Ne.symm Cv)).trans (vZ _ z)⟩
structure wu (h:Heap)(e T:Addr)(c:Value)(dx:Option Addr)(fl:Value):Prop where
 ob:∃o vs,h.get? e=some o/\o.cls=c/\o.dict=dx/\o.data=.fields vs/\vs[1]? = some (.ref T)
 tb:∃o ts,h.get? T=some o/\o.data=.fields ts/\ts[3]? = some fl
 ne:T≠e
theorem wu.land {T:Addr}{c:Value}{dx:Option Addr}{fl:Value}{fr:List Addr}{Q:Unit->Shared->Prop}(F:wu s.heap e T c dx fl)
  (h:∀h',wu h' e T c dx .none->Kp fr [T] s.heap h'->Q () { s with heap:=h' }):wpAny M A (setFlight (.ref e) none) Q E s:=by
 obtain⟨⟨o,vs,ho,hc,hx,hd,h1⟩,⟨oT,ts,hT,Ji,h3⟩,ne⟩:=F;unfold setFlight;refine wX (wpAny_field ho hd h1 ?_);rw[if_pos (show(Value.ref T != Value.none)=true from by simp)];refine wpAny_setField hT Ji (Array.getElem?_eq_some_iff.mp h3).1 (h _ ⟨⟨o,vs,(Heap.get?_update_other _ _ ne).trans ho,hc,hx,hd,h1⟩,⟨_,_,AW hT Ji 3 _,rfl,?_⟩,ne⟩ (Kp.other _ _));rw[Array.getElem?_setIfInBounds_self_of_lt (Array.getElem?_eq_some_iff.mp h3).1];rfl
theorem vf {dx:Option Addr}{Q:Unit->Shared->Prop}(z8:A.frames=some (env::outer))(hl:s.heap.FunFrames base (env::outer))(hf:env.frame=some L)
  (he:s.heap.get? e=some oe) (hd:oe.data=.fields vs) (h1:vs[1]? = some .none) (hx:oe.dict=dx)
  (h:∀h' T,wu h' e T oe.cls dx (rawInt L)->s.heap.objs.size<=T->Kp (L::outer.filterMap (·.frame)) [e] s.heap h'->Q () { s with heap:=h' }):wpAny M A (noteFrame (.ref e) env) Q E s:=by
 have hs:=(Array.getElem?_eq_some_iff.mp h1).1;unfold noteFrame;simp only[hf];refine wX (wpAny_field he hd h1 ?_);rw[if_neg (by decide)];refine AX z8 hl hf he hd hs λh' T oT ts a1 a2 a3 a4 a5 a6=>h h' T ⟨⟨_,_,a1,rfl,hx,rfl,by rw[Array.getElem?_setIfInBounds_self_of_lt hs]⟩,⟨_,_,a3,a4,a5⟩,λz=>absurd (vX he) (by rw[←z];exact Nat.not_lt.mpr a2)⟩ a2 a6
theorem lu {T:Addr}{c:Value}{dx:Option Addr}{Q:Unit->Shared->Prop}(z8:A.frames=some (env::outer))(hl:s.heap.FunFrames base (env::outer))(hf:env.frame=some L)(F:wu s.heap e T c dx .none)
  (h:∀h' T',wu h' e T' c dx (rawInt L)->s.heap.objs.size<=T'->Kp (L::outer.filterMap (·.frame)) [e,T] s.heap h'->Q () { s with heap:=h' }):wpAny M A (noteFrame (.ref e) env) Q E s:=by
 obtain⟨⟨o,vs,ho,hc,hx,hd,h1⟩,⟨oT,ts,hT,Ji,h3⟩,ne⟩:=F;have hs:=(Array.getElem?_eq_some_iff.mp h1).1;unfold noteFrame;simp only[hf];refine wX (wpAny_field ho hd h1 ?_);rw[if_pos (show(Value.ref T != Value.none)=true from by simp)];refine wX (wpAny_field hT Ji h3 ?_);rw[if_neg (show ¬((Value.none == rawInt L)=true)from by simp[rawInt])];refine wX (wpAny_setField hT Ji (Array.getElem?_eq_some_iff.mp h3).1 ?_);have kp:Kp (L::outer.filterMap (·.frame)) [T] s.heap (s.heap.update T (Obj.mapFields (·.setIfInBounds 3 Value.none))):=Kp.other _ _;have zH:(s.heap.update T (Obj.mapFields (·.setIfInBounds 3 Value.none))).FunFrames base (env::outer):=hl.of_keeps λb o' hb hn=>by
  obtain⟨_,sl,z⟩:=kp b o' hb λz=>by rw[uU z,hT]at hb;cases hb;exact hn ts Ji
  exact⟨_,z,rfl⟩
 refine AX z8 zH hf ((Heap.get?_update_other _ _ ne).trans ho) hd hs λh' T' oT' ts' a1 a2 a3 a4 a5 a6=>?_;have fT:s.heap.objs.size<=T':=vR (Nat.le_of_eq (Heap.size_update s.heap T _).symm) a2;refine h h' T' ⟨⟨_,_,a1,hc,hx,rfl,by rw[Array.getElem?_setIfInBounds_self_of_lt hs]⟩,⟨_,_,a3,a4,a5⟩,λz=>absurd (vX ho) (by rw[←z];exact Nat.not_lt.mpr fT)⟩ fT ?_;exact(kp.more λb _ _ z=>mZ _ z).trans (a6.more λb _ _ z=>by rw[uU z];exact mX)
end
end EX
namespace EX
open PySem PySem.Spec PyProof.Rows L2
open PySem.W (Frag findIn mroIn keepIn isFn)
noncomputable def DA (C t0:Addr)(d:Option Addr):Obj:={ cls:=.ref C,dict:=d,data:=.fields #[.ref t0,.none,.none,.none,.bool false,.none] }
noncomputable def XN (e C t0:Addr)(d:Option Addr):HO:=.ext λh=>h.get? e=some (DA C t0 d)
noncomputable def XO (e C:Addr)(d:Option Addr):HO:=.ext λh=>∃o vs,h.get? e=some o/\o.cls=.ref C/\o.dict=d/\o.data=.fields vs
theorem Fq {P:Program}{w:World}{H:Hp}{h:Heap}{e C t0:Addr}{d:Option Addr}(x:h.get? e=some (DA C t0 d)):bF P w H h e (XN e C t0 d):=⟨x,⟨_,x⟩,λ_ _ p k=>k _ p⟩
theorem AY {P:Program}{w:World}{H:Hp}{h:Heap}{e C t0:Addr}{d:Option Addr}(x:bF P w H h e (XN e C t0 d)):h.get? e=some (DA C t0 d):=And.left x
theorem K8 {P:Program}{w:World}{H:Hp}{h:Heap}{e C:Addr}{d:Option Addr}(x:∃o vs,h.get? e=some o/\o.cls=.ref C/\o.dict=d/\o.data=.fields vs):bF P w H h e (XO e C d) :=
 ⟨x,let ⟨o,_,q,_⟩:=x;⟨o,q⟩,λ_ _ ⟨o,vs,q,r⟩ k=>⟨o,vs,k _ q,r⟩⟩
theorem Fs {P:Program}{w:World}{H:Hp}{h:Heap}{e C:Addr}{d:Option Addr}(x:bF P w H h e (XO e C d)):∃o vs,h.get? e=some o/\o.cls=.ref C/\o.dict=d/\o.data=.fields vs:=And.left x
structure Ec (K:Frag)(C:Addr):Prop where
 ob:∃nm q N bs bm sn sub ab col dd k0 k1 k2 k3 k5,K.lookup C=some (excClassObj nm q C N bs bm true sn sub ab col dd k0 k1 k2 k3 k5 "ValueError.__new__")/\(PySem.W.tailIn K Hm bm=true/\bm.contains (.type "BaseException")=true)/\∀self:Value,refuseLoop self "__setattr__" bm=pure ()
 kp:keepIn K (.ref C)=true
 st:findIn K (.ref C) "__setattr__" = some (some (.builtin "object.__setattr__"))
 bo:mroIn K C (.type "object")=some true
section
variable {X:Cx}{C fI:Addr}{ac:List (Addr×Obj)}{σ:L2.St}{H:Hp}{s:Shared}
theorem DB {A:Around}{E:Value->Shared->Prop}{e t0:Addr}{name:Str}{v:V}{u:Value}{Q:Unit->Shared->Prop}(c:Ec X.K C)(Cg:findIn X.K (.ref C) name=some none)(I:Inv X ac σ H s)(he:H e=some (XN e C t0 none))(rv:aL v u)
  (h:∀s',Inv X ac σ (upd (upd H s.heap.objs.size (.xd [(name,v)])) e (XN e C t0 (some s.heap.objs.size))) s'->Q () s'):wpAny (model X.prog X.w) A (setAttr (.ref e) name u) Q E s:=by
 obtain⟨nm,q,N,bs,bm,sn,sub,ab,col,dd,k0,k1,k2,k3,k5,hC,_,hp⟩:=c.ob;have xe:=AY (I.hok e _ he);obtain⟨hh,g,d,t,os⟩:=s;refine D7 (o:=DA C t0 none) I.kIn hp c.bo (I.kIn _ _ hC) c.st Cg xe rfl (λ_ z=>nomatch z) rfl λh' EG a1 a2 a3=>h _ ?_;have gs:e<hh.objs.size:=vX xe;have Tj:hh.objs.size≠e:=Nat.ne_of_gt gs;have hf:H hh.objs.size=none:=I.hok.fresh (vT _);refine I.step (g':=g) (d':=d) (t':=EG) (ch:=[]) (λ_ z=>nomatch z) (λb o _ _ _ q n=>a3 b o (λz=>by rw[z,he]at n;cases n) q) (λb o _ _ _ q n=>⟨o.slots,a3 b o (λz=>by rw[z,he]at n;cases n) q⟩) (λb o _ q n=>?_) (λb o _ q=>?_) (λb xs q=>?_) (λb o' u' q=>?_) (λb q' q=>?_) (λm hm=>?_) ?_ I.bare
 ·rw[aA (λz=>by rw[z,he]at n;cases n),aA (vS (vX q))];exact n
 ·by_cases z:b=e
  ·rw[z];exact⟨_,a1⟩
  ·exact⟨o,a3 b o z q⟩
 ·rw[aA (λz=>by rw[z,he]at q;cases q),aA (aV q hf)];exact q
 ·rw[aA (λz=>by rw[z,he]at q;cases q),aA (aV q hf)];exact q
 ·rw[aA (λz=>by rw[z,he]at q;cases q),aA (aV q hf)];exact q
 ·obtain⟨o,es,ep,ho,r⟩:=hm;exact⟨o,es,ep,a3 _ o (λz=>by have:=I.free;rw[z,he]at this;cases this) ho,r⟩
 ·intro b u' q;by_cases z:b=e
  ·subst z;rw[av]at q;cases q;exact Fq a1
  ·rw[aA z]at q;by_cases z2:b=hh.objs.size
   ·subst z2;rw[av]at q;cases q;refine⟨_,a2,λf=>?_⟩;by_cases z3:f=name
    ·subst z3;simp[ou,rv]
    ·have:(name,v).1≠f:=λy=>z3 y.symm;simp[List.lookup,z3,ou,beq_eq_false_iff_ne.mpr z3]
   ·rw[aA z2]at q;have Qx:∀c:Addr,H c=some (.own b)->c≠e:=λc r z=>by rw[z,he]at r;cases r
    refine(I.hok b u' q).stay (λc v' hc r=>a3 c v' ?_ r) (λc r=>?_) (λc xs r=>?_) λc o xs r=>?_
    ·rcases hc with rfl|hc
     ·exact z
     ·exact Qx c hc
    ·rw[aA (Qx c r),aA (aV r hf)];exact r
    ·rw[aA (λz=>by rw[z,he]at r;cases r),aA (aV r hf)];exact r
    ·rw[aA (λz=>by rw[z,he]at r;cases r),aA (aV r hf)];exact r
end
open PySem.W (Frag findIn mroIn keepIn isFn)
section
variable {X:Cx}{C fI:Addr}{ac:List (Addr×Obj)}{σ:L2.St}{H:Hp}{s:Shared}
theorem fB {e:Addr}{φ:Heap->Prop}{u:HO}{Ts:List Addr}{h':Heap}(I:Inv X ac σ H s)(he:H e=some (.ext φ))(k:Kp (kZ X.stack) (e::Ts) s.heap h')
  (hT:∀b∈Ts,H b=none/\X.s₀.heap.objs.size<=b/\b≠X.env.locals/\(∀x c,X.env.cells.lookup x=some c->c≠b)/\∀p∈X.pn++ac,p.1≠b) (new:bF X.prog X.w (upd H e u) h' e u):
  Inv X ac σ (upd H e u) { s with heap:=h' }:=by
 have ne:∀b,H b=none->b≠e:=λb n z=>by rw[z,he]at n;cases n
 have IE:∀b v,H b=some v->(∀ψ,v≠.ext ψ)->b≠e:=λb v q n z=>by rw[z,he]at q;cases q;exact n _ rfl
 have nc:∀b,b≠e->b∉Ts->b∉e::Ts:=λb h1 h2 z=>(vP z).elim h1 h2;have nf:∀b,b≠X.env.locals->b∉X.fs->b∉kZ X.stack:=λb h1 h2 z=>(vP (I.stkSub b z)).elim h1 h2;have So:∃o,h'.get? e=some o:=by
  cases q:h'.get? e with
  |some o=>exact⟨o,rfl⟩
  |none=>
   exfalso;have:=new.lt;cases u with
   |ext ψ=>obtain⟨_,⟨o,z⟩,_⟩:=new;rw[q]at z;cases z
   |lst xs=>obtain⟨_,_,_,_,z⟩:=new;rw[q]at z;cases z
   |tup xs=>obtain⟨_,_,_,_,z,_⟩:=new;rw[q]at z;cases z
   |dK bE ob=>have z:=And.left new;rw[q]at z;cases z
   |dT bE=>obtain⟨_,_,_,_,o,_,_,z,_⟩:=new;rw[q]at z;cases z
   |set S n=>obtain⟨o,_,_,_,z,_⟩:=new;rw[q]at z;cases z
   |ins C dx fs=>obtain⟨_,_,_,z,_⟩:=new;rw[q]at z;cases z
   |own y=>obtain⟨_,z⟩:=new;rw[q]at z;cases z
   |xd fs=>obtain⟨_,⟨_,_,_,z,_⟩,_⟩:=new;rw[q]at z;cases z
   |rng lo hi=>obtain⟨_,_,_,z⟩:=new;rw[q]at z;cases z
   |frz ob u=>obtain⟨z,_⟩:=new;rw[q]at z;cases z
   |tbl qq=>obtain⟨_,z,_⟩:=new;rw[q]at z;cases z
   |met f y=>have z:h'.get? e=some _:=new;rw[q]at z;cases z
 refine I.step (g':=s.gens) (d':=s.drawn) (t':=s.toks) (ch:=Ts) (λb hb=>let ⟨_,a2,a3,a4,a5⟩:=hT b hb;⟨.inr a2,a3,a4,a5⟩) (λb o hL hb hc q n=>(k b o q (nc b (ne b n) hc)).1 (nf b hL hb)) (λb o _ _ hc q n=>(k b o q (nc b (ne b n) hc)).2) (λb o _ q n=>by rw[aA (ne b n)];exact n) (λb o hc q=>?_)
  (λb xs q=>by rw[aA (IE b _ q λ_ z=>nomatch z)];exact q) (λb o' u' q=>by rw[aA (IE b _ q λ_ z=>nomatch z)];exact q) (λb q' q=>by rw[aA (IE b _ q λ_ z=>nomatch z)];exact q) (λm hm=>?_) (λb v q=>?_) I.bare
 ·by_cases z:b=e
  ·rw[z];exact So
  ·obtain⟨sl,y⟩:=(k b o q (nc b z hc)).2;exact⟨_,y⟩
 ·obtain⟨o,es,ep,ho,r⟩:=hm;obtain⟨sl,y⟩:=(k _ o ho (nc _ (ne _ I.free) λz=>(hT _ z).2.2.1 rfl)).2;exact⟨_,es,ep,y,r⟩
 ·by_cases z:b=e
  ·subst z;rw[av]at q;cases q;exact new
  ·rw[aA z]at q;have kb:∀c v',H c=some v'->c≠e->∀o,s.heap.get? c=some o->h'.get? c=some o:=λc v' r1 r2 o r3=>
    (k c o r3 (nc c r2 λy=>by have:=(hT c y).1;rw[r1]at this;cases this)).1 λy=>by have:=I.stkFree c y;rw[r1]at this;cases this
   refine(I.hok b v q).stay (λc v' hc r=>?_) (λc r=>by rw[aA (IE c _ r λ_ z=>nomatch z)];exact r) (λc xs r=>by rw[aA (IE c _ r λ_ z=>nomatch z)];exact r) λc o xs r=>by rw[aA (IE c _ r λ_ z=>nomatch z)];exact r
   rcases hc with rfl|hc
   ·exact kb c v q z v' r
   ·exact kb c _ hc (IE c _ hc λ_ z=>nomatch z) v' r
def lY (P:Program)(w:World):Cn:=λouter H s E ev s'=>∃e C dx T H',ev=.ref e/\s'.os=s.os/\AllBare s'.gens/\Un (kZ outer) [] H H' s.heap s'.heap/\lC P w H' s'.heap /\
 wu s'.heap e T (.ref C) (some dx) .none/\H' e=some (XO e C (some dx))/\H' T=none/\s.heap.objs.size<=T/\s.heap.objs.size<=e/\E (.ref C) (some dx) H'
theorem wu.xo {P:Program}{w:World}{h:Heap}{e T C:Addr}{d:Option Addr}{fl:Value}(F:wu h e T (.ref C) d fl):bF P w H h e (XO e C d) :=
 let ⟨o,vs,a,b,c,d,_⟩:=F.ob;K8 ⟨o,vs,a,b,c,d⟩
theorem K9 {P:Program}{w:World}{K:Frag}{mg:Str->Option Value}{base:Heap}{N:List Str}{qual:Str}{scope:Scope}{f:Addr}{cd:Value}{A:Around}{outer:List Env}{s₀:Shared}{H₀:Hp}{E:XK}{e t0 dx:Addr}
  (I:Inv (dG (lY P w) P w K mg base N qual scope f cd A outer s₀ H₀ E) ac σ H s) (he:H e=some (XN e C t0 (some dx))) (hs:s₀.heap.objs.size<=e) (hE:E (.ref C) (some dx) (upd H e (XO e C (some dx)))):
  (dG (lY P w) P w K mg base N qual scope f cd A outer s₀ H₀ E).xe (.ref e) s:=by
 have xe:=AY (I.hok e _ he);show wpAny _ _ (leaving _ (.ref e)) _ _ s;unfold leaving;refine wX (vf (base:=base) (L:=s₀.heap.objs.size) (dx:=some dx) I.ok.frames I.stack rfl xe rfl rfl rfl λh1 T F1 hT K1=>?_);refine wu.land (s:={ s with heap:=h1 }) (fr:=s₀.heap.objs.size::kZ outer) F1 λh2 F2 K2=>?_;have kk:Kp (kZ (dG (lY P w) P w K mg base N qual scope f cd A outer s₀ H₀ E).stack) (e::[]) s.heap h2:=by
  have e1:kZ (dG (lY P w) P w K mg base N qual scope f cd A outer s₀ H₀ E).stack=s₀.heap.objs.size::outer.filterMap (·.frame):=rfl;rw[e1];refine((K1.more (ch':=[e,T]) λb _ _ z=>by rw[uU z];exact mX).trans (K2.more λb _ _ z=>mZ _ z)).more λb o q z=>?_;rcases vP z with z|z
  ·rw[z];exact mX
  ·rw[uU z]at q;exact absurd (vX q) (Nat.not_lt.mpr hT)
 have J:=fB (u:=XO e C (some dx)) (h':=h2) I he kk (λ_ z=>nomatch z) F2.xo;have gs:=vX xe;exact⟨e,C,dx,T,_,rfl,J.os,J.bare,J.base,J.hok,F2,av,by rw[aA (Nat.ne_of_gt (vQ gs hT))];exact I.hok.fresh hT,vR I.sz hT,hs,hE⟩
end
open PySem.W (Frag findIn mroIn keepIn isFn)
def gP (H:Hp)(e C t0 dx:Addr)(name:Str)(v:V):Hp:=upd (upd (upd H e (XN e C t0 none)) dx (.xd [(name,v)])) e (XN e C t0 (some dx))
theorem AZ {H:Hp}{e C t0 dx:Addr}{name:Str}{v:V}:gP H e C t0 dx name v e=some (XN e C t0 (some dx)):=av
theorem Hn {H:Hp}{e C t0 dx:Addr}{name:Str}{v:V}(n:dx≠e):gP H e C t0 dx name v dx=some (.xd [(name,v)]):=by unfold gP;rw[aA n,av]
theorem Ho {H:Hp}{e C t0 dx b:Addr}{name:Str}{v:V}(n:b≠e)(m:b≠dx):gP H e C t0 dx name v b=H b:=by unfold gP;rw[aA n,aA m,aA n]
def IV (C:Addr)(name:Str):Sp:=λvs H Q _=>∃e t0 v,vs=[.ref e,v]/\H e=some (XN e C t0 none)/\∀dx,H dx=none->Q .non (upd (upd H dx (.xd [(name,v)])) e (XN e C t0 (some dx)))
section
variable {X:Cx}{C fI:Addr}{ac:List (Addr×Obj)}{σ:L2.St}{H:Hp}{s:Shared}{o value a:Expr}{name x:Str}{pos zr p bU:Pos}{ta tv:TE}
def KA (C:Addr)(ta tv:TE)(name:Str):TS:=λD σ H=>tv σ H λy H1=>ta σ H1 λx H2=>∃e t0,x=.ref e/\H2 e=some (XN e C t0 none)/\∀dx,H2 dx=none->D.nx σ (upd (upd H2 dx (.xd [(name,y)])) e (XN e C t0 (some dx)))
theorem Hq (c:Ec X.K C)(Cg:findIn X.K (.ref C) name=some none)(ha:PE X o ta)(hv:PE X value tv)(hs:swapsWith value (some (.Attribute o name zr)) pos.line X.env=pure false):PS X (.Assign [.Attribute o name zr] value pos) (KA C ta tv name):=by
 intro ac s σ H D I h;refine plainObj_wpAny_Assign_Attribute (cb (hv ac s σ H _ I h) λu s1 ⟨y,H1,I1,ry,q⟩=>cb (ha ac s1 σ H1 _ I1 q) λov s2 ⟨x,H2,I2,rx,e,t0,ex,ea,q2⟩=>?_) hs;subst ex;obtain rfl:ov=Value.ref e:=rx;exact DB c Cg I2 ea ry λs3 I3=>⟨σ,_,I3,q2 _ (I2.hok.fresh (vT _))⟩
theorem DC {k:Nat}{fd:FuncData}{ps:List Str}{Q:VK}{v:V}{u:Value}(c:Ec X.K C)(hi:findIn X.K (.ref C) "__init__" = some (some (.ref fI)))(E4:isFn X.K (.ref fI)=true)
  (F:fH X.prog X.w X.K X.mg X.base ml k fI fd ps (IV C name)) (hr:cC (k+1) X.A) (hb:fm X.K fd ps []) (I:Inv X ac σ H s) (r:aL v u)
  (h:∀e dx t0,s.heap.objs.size<=e->H e=none->H dx=none->dx≠e->Q (.ref e) (gP H e C t0 dx name v)):wq X (call (.ref C) [u]) (EP X ac σ Q) X.xe s:=by
 obtain⟨nm,q,N,bs,bm,sn,sub,ab,col,dd,k0,k1,k2,k3,k5,hC,U,hp⟩:=c.ob;obtain⟨hh,g,d,t,os⟩:=s;obtain⟨oI,Sq,Sr⟩:∃oI,X.K.lookup fI=some oI/\oI.cls=.type "function":=by
  have z:=beq_iff_eq.mp E4;unfold PySem.W.typeIn at z;cases q:X.K.lookup fI with
  |none=>simp[q]at z
  |some o=>simp[q]at z;exact⟨o,rfl,z⟩
 refine AU I.kIn PySem.F.excBase_ValueError (PySem.W.tail_of_in I.kIn U.1) (I.kIn _ _ hC) hi (I.kIn _ _ Sq) Sr λh' e hm hs=>?_;obtain⟨t0,he,_,_⟩:=hm.there;have I2:Inv X ac σ (upd H e (XN e C t0 none)) { (⟨hh,g,d,t,os⟩:Shared)with heap:=h',toks:=t }:=I.laid hm.keeps hs (Fq he);have r2:aS [V.ref e,v] [Value.ref e,u]:=.cons rfl (.cons r .nil);have hl:([Value.ref e,u]++[]).length=ps.length:=(F.len [.ref e,v] (upd H e (XN e C t0 none)) (λ_ _=>True) (λ_ _ _=>True) ⟨e,t0,v,rfl,av,λ_ _=>trivial⟩);have ye:H e=none:=I.hok.fresh hs;have hq:IV C name [.ref e,v] (upd H e (XN e C t0 none)) (λw H2=>w=.non/\Q (.ref e) H2) (λ_ _ _=>False) :=
  ⟨e,t0,v,rfl,av,λdx hx=>⟨rfl,by
   have nd:dx≠e:=λz=>by rw[z,av]at hx;cases hx
   rw[aA nd]at hx;exact h e dx t0 hs ye hx nd⟩⟩
 refine wpAny_call (codeAny_mono (F.run _ X.stack _ _ ⟨[Value.ref e,u],[]⟩ [Value.ref e,u] _ _ _ (hr.make C [u] []) (I2.env0.make C [u] []) (by have:=hb { (⟨hh,g,d,t,os⟩:Shared)with heap:=h',toks:=t } [Value.ref e,u] I2.kIn hl;rwa [uQ]at this) r2 hq) λr s' hq'=>?_);cases r with
 |error e=>exact False.elim hq'
 |ok fl=>
  cases fl with
  |ret u=>
   obtain⟨w,H',I3,rv,ev,q3⟩:=I2.after hq';subst ev;exact⟨rv,⟨V.ref e,H',I3,rfl,q3⟩⟩
  |next=>exact False.elim hq'
  |brk=>exact False.elim hq'
  |cont=>exact False.elim hq'
def Hr (ta:TE)(R:V->Hp->Prop):TS:=λ_ σ H=>iK ta r6 σ H λvs H1=>∃v,vs=[v]/\R v H1
theorem Ba {k:Nat}{fd:FuncData}{ps:List Str}{R:V->Hp->Prop}(c:Ec X.K C)(hi:findIn X.K (.ref C) "__init__" = some (some (.ref fI)))(E4:isFn X.K (.ref fI)=true)
  (F:fH X.prog X.w X.K X.mg X.base ml k fI fd ps (IV C name)) (hr:cC (k+1) X.A) (hb:fm X.K fd ps []) (hg:Gl X x) (hm:X.mg x=some (.ref C)) (ha:PE X a ta)
  (OK:∀ac s σ H e t0 dx v H0,Inv X ac σ H s->H=gP H0 e C t0 dx name v->X.s₀.heap.objs.size<=e->H0 e=none->H0 dx=none->dx≠e->R v H0->X.xe (.ref e) s)
  (jW:(x == ("__debug__" : Str))=false:=by decide) (he:starEach [a] X.env=(false,eval a X.env)::starEach [] X.env:=by rfl):
  PS X (.Raise (some (.Call (.Name x p) [a] [] bU)) none pos) (Hr ta R):=by
 intro ac s σ H D I h;obtain⟨nm,q,N,bs,bm,sn,sub,ab,col,dd,k0,k1,k2,k3,k5,hC,U,hp⟩:=c.ob;rw[arm_exec_Raise];refine wX (wpAny_standAt ?_);refine vc (C:=C) (nm:=nm) (q:=q) (N:=N) (bs:=bs) (hdct:=true) (sn:=sn) (sub:=sub) (ab:=ab) (col:=col) (dd:=dd) (k0:=k0) (k1:=k1) (k2:=k2) (k3:=k3) (k5:=k5) (newId:="ValueError.__new__") U.2 hr.hd (wX ?_);refine wpAny_Call_Name_kw (hJ I hg hm ?_ jW);have LJ:PA X [a] (iK ta r6):=bI ha dq he;refine PySem.W.callWith_K (h₀:=X.base) I.ok.mod.kin c.kp (cb (LJ bU ac s σ H (λvs H1=>∃v,vs=[v]/\R v H1) I ?_) λus s1 ⟨vs,H1,I1,r,v,ev,q⟩=>⟨I1.kIn,?_⟩) he rfl
 ·exact h
 ·subst ev;obtain⟨u1,rfl,r1⟩:∃u1,us=[u1]/\L2.aL v u1:=by cases r with|cons a b=>cases b with|nil=>exact⟨_,rfl,a⟩
  refine cb (DC (Q:=λw H2=>∃e dx t0,w=.ref e/\s1.heap.objs.size<=e/\H1 e=none/\H1 dx=none/\dx≠e/\H2=gP H1 e C t0 dx name v) c hi E4 F hr hb I1 r1 λe dx t0 a1 a2 a3 a4=>⟨e,dx,t0,rfl,a1,a2,a3,a4,rfl⟩) λu s2 ⟨w,H2,I2,Lr,e,dx,t0,ew,a1,a2,a3,a4,eH⟩=>?_;subst ew;obtain rfl:u=Value.ref e:=Lr;refine wX (wpAny_standAt (wY ?_));have FN:H2 e=some (XN e C t0 (some dx)):=by rw[eH];exact AZ
  exact⟨e,t0,some dx,rfl,I2.kIn _ _ hC,AY (I2.hok e _ FN),OK ac s2 σ H2 e t0 dx v H1 I2 eH (vR I1.sz a1) a2 a3 a4 q⟩
end
open PySem.W (Frag findIn mroIn keepIn isFn)
theorem iU {H:Hp}{a:Addr}{o:HO}(h:H a=some o):upd H a o=H:=by
 funext b;unfold upd;split
 ·rename_i z;rw[z,h]
 ·rfl
section
variable {X:Cx}{C:Addr}{ac:List (Addr×Obj)}{σ:L2.St}{H:Hp}{s:Shared}
theorem sP {i:Nat}{n:Str}{m:Str->Option Value}{v:Option Value}{h':Heap}{t:Nat}(I:Inv X ac σ H s)(hN:X.N.Nodup)(hi:X.N[i]? = some n)(hk:X.env.kindOf n=some .local)
  (hm:s.heap.Ns X.env.locals m) (Jb:h'.Ns X.env.locals λx=>if x=n then v else m x) (hs:Heap.SameBut X.env.locals s.heap h'):Inv X ac (σ.set i none) H { s with heap:=h',toks:=t }:=by
 obtain⟨m0,hn,hl⟩:=I.loc;have Ss:∀x,m x=m0 x:=λx=>by
  obtain⟨o,es,ep,ho,hd,Tk,e1⟩:=hm;obtain⟨o',BS,Mt,rj,Ms,Tl,e2⟩:=hn;rw[ho]at rj;cases rj;rw[hd]at Ms;cases Ms;rw[←e1,←e2]
 have IZ:∀b o,X.s₀.heap.get? b=some o->b≠X.env.locals:=λb o e=>vS (vQ (vX e) I.ok.above);refine⟨I.ok,I.os,I.bare,⟨λb o e q hb hx=>?_,λb o e q hb hx=>?_,I.base.free,λb o e hx=>?_,I.base.tups,I.base.frzs,I.base.tbls⟩,⟨_,Jb,λj y v' e1 e2 e3=>?_⟩,λy c e=>?_,I.free,I.freeC,λp hp=>?_,λb u e=>?_,by simpa using I.len⟩
 ·exact(hs.2 b (IZ b o e)).trans (I.base.keep b o e q hb hx)
 ·obtain⟨sl,z⟩:=I.base.slot b o e q hb hx;exact⟨sl,(hs.2 b (IZ b o e)).trans z⟩
 ·obtain⟨o',z⟩:=I.base.there b o e hx;exact⟨o',(hs.2 b (IZ b o e)).trans z⟩
 ·have hj:i≠j:=λz=>by
   subst z;rw[List.getElem?_set_self (by rw[I.len];exact(vV hi).1)]at e2;cases e2
  rw[vC hj]at e2;obtain⟨u,r,q⟩:=hl j y v' e1 e2 e3;refine⟨u,r,?_⟩;rcases q with⟨k,e⟩|⟨k,c,e,z⟩
  ·refine .inl ⟨k,?_⟩;have:y≠n:=λz=>hj (m4 hN hi (z ▸ e1));show(if y=n then v else m y)=some u;rw[if_neg this,Ss];exact e
  ·exact .inr ⟨k,c,e,z.sameBut hs (I.cne y c e)⟩
 ·obtain⟨w',z⟩:=I.cell y c e;exact⟨w',z.sameBut hs (I.cne y c e)⟩
 ·obtain⟨e,q,ne,nf,d⟩:=I.pin p hp;exact⟨(hs.2 p.1 ne).trans e,q,ne,nf,d⟩
 ·refine(I.hok b u e).stay (λc v' hc q=>(hs.2 c ?_).trans q) (λ_ q=>q) (λ_ _ q=>q) λ_ _ _ q=>q;have hf:=I.free;rintro rfl;rcases hc with rfl|hc
  ·rw[hf]at e;cases e
  ·rw[hf]at hc;cases hc
noncomputable abbrev vg (X:Cx)(A:Around)(E:Value->Shared->Prop):Cx:={ X with A:=A,calm:=false,xe:=E }
theorem qM {A:Around}{E:Value->Shared->Prop}(I:Inv X ac σ H s)(hA:A.frames=X.A.frames):Inv (vg X A E) ac σ H s :=
 ⟨⟨I.ok.mod,I.ok.kind,I.ok.glob,I.ok.blt,I.ok.above,I.ok.inj,I.ok.has,I.ok.cab,(λz=>nomatch z),hA.trans I.ok.frames,I.ok.stk,I.ok.exf,I.ok.bs,I.ok.bsz,I.ok.noex,I.ok.exfs,I.ok.funs,I.ok.frf⟩,I.os,I.bare,I.base,I.loc,I.cell,I.free,I.freeC,I.pin,I.hok,I.len⟩
theorem sQ {A:Around}{E:Value->Shared->Prop}(ok:X.Ok)(I:Inv (vg X A E) ac σ H s):Inv X ac σ H s :=
 ⟨ok,I.os,I.bare,I.base,I.loc,I.cell,I.free,I.freeC,I.pin,I.hok,I.len⟩
theorem qN {e dx:Addr}{fs:List (Str×V)}(hok:lC X.prog X.w H s.heap)(he:H e=some (XO e C (some dx)))(hd:H dx=some (.xd fs)):∃ox od,PySem.W.InstAt s.heap e ox C (some od)/\ox.dict=some dx:=by
 obtain⟨o,vs,a1,a2,a3,a4⟩:=Fs (hok e _ he);obtain⟨mA,⟨od,es,ep,b1,_⟩,_⟩:=hok dx _ hd;exact⟨o,od,⟨a1,a2,by unfold PySem.W.notCls;rw[a4],by rw[a3];exact b1⟩,a3⟩
end
open PySem.W (Frag findIn mroIn keepIn isFn)
section
variable {X:Cx}{C D:Addr}{ac:List (Addr×Obj)}{σ:L2.St}{H:Hp}{s:Shared}
theorem Nw {i j:Nat}{n y cx:Str}{p1 p2 p3 p4 hp:Pos}{Dn:Ends}{s':Shared}{E:XK}{ev:Value}(kU:X.stack=X.env::X.outer)(IF:X.env.frame=some X.env.locals)(hN:X.N.Nodup)
  (hj:X.N[j]? = some n) (hn:X.env.kindOf n=some .local) (hi:X.N[i]? = some y) (hy:X.env.kindOf y=some .local) (hg:Gl X cx) (hm:X.mg cx=some (.ref D)) (hx:PySem.W.exmOne X.K (.ref C) (.ref D)=some true)
  (I:Inv X ac σ H s) (h:lY X.prog X.w X.stack H s E ev s')
  (hE:∀c d H',E c d H'->∃dx fs,c=.ref C/\d=some dx/\H' dx=some (.xd fs)/\∀e,H' e=some (XO e C (some dx))->Dn.nx (((σ.set j (some (.ref e))).set i (some (.ref e))).set j none) H')
  (OI:(n == ("__debug__" : Str))=false:=by decide) (Jg:(n == ("__classdict__" : Str))=false:=by decide) (gH:(cx == ("__debug__" : Str))=false:=by decide)
  (EA:swapsWith (.Name n p3) (some (.Name y p2)) p4.line X.env=pure false:=by rfl):
  wq X (noteFrame ev X.env) (λ_ s₂=>wq X (setFlight ev none) (λ_ s₃=>wq X (handleBy ev X.env [.ExceptHandler (some (.Name cx p1)) (some n) [.Assign [.Name y p2] (.Name n p3) p4] hp]) (SP X ac Dn) X.xe s₃) X.xe s₂) X.xe s':=by
 obtain⟨e,C',dx,T,H',rfl,os,bare,un,hok,FQ,he,hT,sT,se,q⟩:=h;obtain⟨Su,fs,c1,c2,hd,q⟩:=hE _ _ _ q;cases c1;cases c2
 have J:Inv X ac σ H' s':=I.call' (ch:=[]) os un hok bare λ_ z=>nomatch z;have FR:∀b,s.heap.objs.size<=b->X.s₀.heap.objs.size<=b/\b≠X.env.locals/\(∀x c,X.env.cells.lookup x=some c->c≠b)/\∀p∈X.pn++ac,p.1≠b:=λb hb=>
  ⟨vR I.sz hb,Nat.ne_of_gt (vQ I.lt hb),λx c e z=>by obtain⟨v,o,ho,_⟩:=I.cell x c e;exact absurd (vX ho) (by rw[z];exact Nat.not_lt.mpr hb),λp hp z=>absurd (vX (I.pin p hp).1) (by rw[z];exact Nat.not_lt.mpr hb)⟩
 have OL:kZ X.stack=X.env.locals::X.outer.filterMap (·.frame):=by rw[kU];unfold kZ;rw[List.filterMap_cons,IF]
 have Jj:s.heap.objs.size<=s'.heap.objs.size:=by
  rcases Nat.lt_or_ge s'.heap.objs.size s.heap.objs.size with z|z
  ·obtain⟨o,_,a,_⟩:=FQ.ob;exact absurd (vX a) (Nat.not_lt.mpr (vR (Nat.le_of_lt z) se))
  ·exact z
 refine lu (base:=X.base) (outer:=X.outer) (L:=X.env.locals) (by rw[←kU];exact J.ok.frames) (by rw[←kU];exact J.stack) IF FQ λh1 T1 F1 hT1 K1=>?_;have J1:Inv X ac σ H' { s' with heap:=h1 }:=by
  have:=fB (u:=XO e C (some dx)) (Ts:=[T]) (h':=h1) J he (by rw[OL];exact K1) (λb hb=>by rw[uU hb];exact⟨hT,FR T sT⟩) F1.xo;rwa [iU he]at this
 have tZ:H' T1=none:=hok.fresh hT1;have Ch:=FR T1 (vR Jj hT1);refine wu.land (s:={ s' with heap:=h1 }) (fr:=kZ X.stack) F1 λh2 F2 K2=>?_;have J2:Inv X ac σ H' { s' with heap:=h2 }:=by
  have:=fB (u:=XO e C (some dx)) (Ts:=[T1]) (h':=h2) J1 he (K2.more λb _ _ z=>mZ _ z) (λb hb=>by rw[uU hb];exact⟨tZ,Ch⟩) F2.xo;rwa [iU he]at this
 refine wpAny_handleBy_cons (codeAny_handlers_test ?_) (λz=>nomatch z);refine hJ (X:=vg X (X.A.mark (some (.ref e))) X.xe) (qM J2 rfl) hg hm ?_ gH;obtain⟨ox,od,IA,Sv⟩:=qN (s:={ s' with heap:=h2 }) J2.hok he hd;refine(PySem.W.exm_one J2.kIn IA.type hx).here ?_;show codeAny _ _ _ _ _;refine codeAny_handlers_suite_as ?_;refine wu.land (s:={ s' with heap:=h2 }) (fr:=kZ X.stack) F2 λh3 F3 K3=>?_;have J3:Inv X ac σ H' { s' with heap:=h3 }:=by
  have:=fB (u:=XO e C (some dx)) (Ts:=[T1]) (h':=h3) J2 he (K3.more λb _ _ z=>mZ _ z) (λb hb=>by rw[uU hb];exact⟨tZ,Ch⟩) F3.xo;rwa [iU he]at this
 refine ka J3 hN hj (.inl hn) (show L2.aL (.ref e) (.ref e)from rfl) (λs4 J4=>?_) (.inr hn);refine wpAny_execs_cons (wpAny_mono (hW (X:=vg X (X.A.mark (some (.ref e))) _) (i:=i) hN hi (.inl hy) (dR (i:=j) hj (.inl hn) OI Jg) EA (.inr hy) ac s4 _ H' { nx:=λσ' H2=>σ'=(σ.set j (some (.ref e))).set i (some (.ref e))/\H2=H',rt:=λ_ _=>False } (qM J4 rfl) ?_) (λf s5 h5=>?_) λ_ _ z=>z)
 ·exact⟨.ref e,List.getElem?_set_self (by rw[I.len];exact(vV hj).1),rfl,rfl⟩
 ·cases f with
  |next=>
   obtain⟨σ5,H5,J5,rfl,rfl⟩:=h5;have J5:=sQ I.ok J5;refine wpAny_execs_nil ?_;obtain⟨m,Mb,_⟩:=id J5.loc;refine wpAny_nameGoes_keeps hn Mb (by rw[I.ok.kind];rfl) λh6 v hn6 hs6=>?_;exact⟨_,_,sP J5 hN hj hn Mb hn6 hs6,q e he⟩
  |ret u=>obtain⟨_,_,_,_,_,z⟩:=h5;exact z.elim
  |brk=>obtain⟨_,_,_,z⟩:=h5;exact z.elim
  |cont=>obtain⟨_,_,_,z⟩:=h5;exact z.elim
end
end EX
namespace DL
open PySem PySem.Spec PyProof.Rows L2 EX
open PySem.W (Frag findIn mroIn keepIn isFn)
def Pr (K:Frag)(g:FS)(RT:VK):TS:=λE σ H=>qz K g { E with rt:=RT } σ H
abbrev JX (X:Cx)(RT:VK)(st:Stmt)(g:FS):Prop:=PS X st (Pr X.K g RT)
abbrev DD (X:Cx)(RT:VK)(st:List Stmt)(g:FS):Prop:=lD X st (Pr X.K g RT)
theorem DE {K:Frag}{f:FE}{σ:L2.St}{H:Hp}{Q Q':VK}(h:tD K f σ H Q)(k:∀v H',Q v H'->Q' v H'):tD K f σ H Q' :=
 let ⟨B,ρ,d,b,s,r,e,q⟩:=h;⟨B,ρ,d,b,s,r,e,λv H' N x i f=>k v H' (q v H' N x i f)⟩
def RE (E:XK)(C:Addr)(name:Str):VK:=λv H0=>∀e dx t0,H0 e=none->H0 dx=none->dx≠e->E (.ref C) (some dx) (upd (gP H0 e C t0 dx name v) e (XO e C (some dx)))
section
variable {X:Cx}{RT:VK}{st:Stmt}{rest a b body:List Stmt}{g h:FS}{c e cj tg:Expr}{pos p bU:Pos}{C fI:Addr}{name x:Str}
theorem lv:DD X RT [] aJ:=lD.to mh λE _ _ q=>rJ (E:={ E with rt:=RT }) q
theorem dY (h1:JX X RT st g)(h2:DD X RT rest h):DD X RT (st::rest) (ay g h):=lD.to (dv h1 h2) λE _ _ q=>wI (E:={ E with rt:=RT }) q
theorem gE (h1:JX X RT st g):DD X RT [st] g:=hV h1
theorem pA {fc:FT}(hc:JT X c fc)(ha:DD X RT a g)(hb:DD X RT b h):JX X RT (.If c a b pos) (cY fc g h):=PS.to (w4 hc ha hb) λE _ _ q=>Ag (E:={ E with rt:=RT }) q
theorem vh {f:FE}{i:Nat}(hN:X.N.Nodup)(he:JE X e f)(hi:X.N[i]? = some x:=by rfl)(hx:EK X.env.scope x:=by first|exact Or.inl rfl|exact Or.inr rfl)(hs:swapsWith e (some (.Name x p)) pos.line X.env=pure false:=by rfl)
  (hf:X.fn x=true∨X.env.scope.names.lookup x=some .local:=by first|exact .inl rfl|exact .inr rfl):JX X RT (.Assign [.Name x p] e pos) (aP i f):=PS.to (hW hN hi hx he hs hf) λE _ _ q=>q8 (E:={ E with rt:=RT }) q
theorem DF (hp:PassesOwn (model X.prog X.w) X.A X.env X.xe)(hc:X.calm=true)(hi:PI X tg cj (IN X.K fi))(hg:PG X tg t)(ht:Cp X.K lQ t)(hb:DD X RT body g)
  (hs:∀x,foldedSetIterable cj X.env x=pure x:=by intro _;rfl):JX X RT (.For tg cj body [] pos) (gK fi lQ g):=PS.to (ug hp hc hi hg hb hs) λE _ _ q=>rL (E:={ E with rt:=RT }) ht q
theorem ky {st:Stmt}:JX X RT st gb:=λac s σ H E I q=>by
 obtain⟨_,_,_,_,_,e,_⟩:=q;cases e
theorem kz {k:Nat}{fd:FuncData}{ps:List Str}{f:FE}{R:VK}(c:Ec X.K C)(hi:findIn X.K (.ref C) "__init__" = some (some (.ref fI)))(E4:isFn X.K (.ref fI)=true)
  (F:fH X.prog X.w X.K X.mg X.base ml k fI fd ps (IV C name)) (hr:cC (k+1) X.A) (hb:fm X.K fd ps []) (hm:X.mg x=some (.ref C)) (ha:JE X e f)
  (OK:∀ac s σ H e t0 dx v H0,Inv X ac σ H s->H=gP H0 e C t0 dx name v->X.s₀.heap.objs.size<=e->H0 e=none->H0 dx=none->dx≠e->R v H0->X.xe (.ref e) s)
  (hg:Gl X x:=by rfl) (jW:(x == ("__debug__" : Str))=false:=by decide) (he:starEach [e] X.env=(false,eval e X.env)::starEach [] X.env:=by rfl):
  JX X R (.Raise (some (.Call (.Name x p) [e] [] bU)) none pos) (aI f) :=
 PS.to (Ba c hi E4 F hr hb hg hm ha OK jW he) λE _ _ q=>DE (q0 (E:={ E with rt:=R }) q) λv _ z=>⟨v,rfl,z⟩
end
def Mp (K:Frag)(C:Addr)(name:Str)(f:List D->OB):Sp:=λvs H _ E=>∃(B:Hp)(ds:List D)(d:D)(b:Bool),(aQ B H/\Tb K B)/\IsL K B vs ds/\f ds=some (d,b)/\Fin K B H d b (RE E C name)
@[simp] noncomputable def iC (g:FS)(n k:Nat):List D->OB:=λds=>if ds.length=n then
 match g (ds.map (λd=>some (d,false))++List.replicate k none) with
 |some (.rt d b)=>some (d,b)
 |_=>none
 else none
section
variable {P:Program}{w:World}{K:Frag}{mg:Str->Option Value}{base:Heap}
theorem Nx {x qual:Str}{st:Stmt}{f:Addr}{fd:FuncData}{N ps:List Str}{k:Nat}{g:FS}{C:Addr}{name:Str}(F:Cy K x qual st f fd)(S:FnScope N ps (ax st))
  (hb:∀(cf:Value)(A:Around)(outer:List PySem.Env)(s:Shared)(H:Hp)(E:XK),cC k (A.deeper (envOfC qual (ax st) s.heap.objs.size f cf))->DD (dG (lY P w) P w K mg base N qual (ax st) f cf A outer s H E) (RE E C name) (bp st) g):
  fH P w K mg base (lY P w) (k+1) f fd ps (Mp K C name (iC g ps.length (N.length - ps.length))):=by
 have len:∀vs H Q E,Mp K C name (iC g ps.length (N.length - ps.length)) vs H Q E->vs.length=ps.length:=λvs H Q E h=>by
  obtain⟨B,ds,d,b,sB,i,e,q⟩:=h;unfold iC at e;split at e
  ·rename_i hl;rw[i.length];exact hl
  ·cases e
 obtain⟨oc,od,kV,doc,pm,an,cf,ct,kW,rfl,lk,gH⟩:=F.ex;refine wC lk gH S len λA outer s H vs Q E hr h=>⟨_,hb cf A outer s H E hr,?_⟩;have bC:=len vs H Q E h;obtain⟨B,ds,d,b,sB,i,e,q⟩:=h;unfold iC at e;rw[if_pos (by rw[←i.length];exact bC)]at e;have s0:=mJ (N:=N) sB.1 sB.2 i;rw[bC]at s0;split at e
 ·rename_i d' b' eg;cases e
  exact⟨B,H,_,_,⟨B,s0⟩,eg,λv H' N' x' i' f'=>q v H' N' x' i' f'⟩
 ·cases e
theorem kA {N:List Str}{qual:Str}{scope:Scope}{f:Addr}{cd:Value}{A:Around}{outer:List PySem.Env}{s₀:Shared}{H₀:Hp}{E:XK}{C:Addr}{name:Str}:
  ∀ac s σ H e t0 dx v H0,Inv (dG (lY P w) P w K mg base N qual scope f cd A outer s₀ H₀ E) ac σ H s->H=gP H0 e C t0 dx name v->(dG (lY P w) P w K mg base N qual scope f cd A outer s₀ H₀ E).s₀.heap.objs.size<=e->H0 e=none->H0 dx=none->dx≠e->RE E C name v H0 ->
   (dG (lY P w) P w K mg base N qual scope f cd A outer s₀ H₀ E).xe (.ref e) s:=λac s σ H e t0 dx v H0 I eH hs h1 h2 h3 q=>by
 subst eH;exact K9 I AZ hs (q e dx t0 h1 h2 h3)
theorem KG {N:List Str}{qual:Str}{scope:Scope}{f:Addr}{cd:Value}{A:Around}{outer:List PySem.Env}{s₀:Shared}{H₀:Hp}{E:XK}:PassesOwn (model P w) (A.deeper (envOfC qual scope s₀.heap.objs.size f cd)) (envOfC qual scope s₀.heap.objs.size f cd) (dG (lY P w) P w K mg base N qual scope f cd A outer s₀ H₀ E).xe:=PassesOwn.leaving
end
end DL
namespace EX
open PySem PySem.Spec PyProof.Rows L2
open PySem.W (Frag findIn mroIn keepIn isFn)
section
variable {X:Cx}{C D fa:Addr}{ac:List (Addr×Obj)}{σ:L2.St}{H:Hp}{s:Shared}
structure Ei (K:Frag)(C:Addr):Prop where
 ga:findIn K (.ref C) "__getattribute__" = some (some (.builtin "BaseException.__getattribute__"))
 gk:findIn K (.ref C) "__getattr__" = some none
 be:mroIn K C (.type "BaseException")=some true
 hd:PySem.W.hasDictIn K C=true
 cl:findIn K (.ref C) "__class__" = some (some (.builtin "object.__class__"))
 cg:PySem.W.specialIn K (.builtin "object.__class__") "__get__" = some (some (.builtin "getset_descriptor.__get__"))
 ct:PySem.W.takesIn K (.builtin "object.__class__")=some true
 ob:mroIn K C (.type "object")=some true
def Ny (K:Frag)(C:Addr):List V->Hp->VK->Prop:=λvs H Q=>∃e dx fs cv cu b,vs=[.ref e,cv]/\H e=some (XO e C (some dx))/\H dx=some (.xd fs)/\(∀u,L2.aL cv u->u=cu)/\PySem.W.kitOne K (.ref C) cu=some b/\Q (.bl b) H
theorem KH (c:Ei X.K C):bN X (.builtin "isinstance") (Ny X.K C):=by
 intro ac s σ H vs us Q I r ⟨e,dx,fs,cv,cu,b,ev,he,hd,hu,hk,q⟩;subst ev;obtain⟨u1,u2,rfl,r1,r2⟩:∃u1 u2,us=[u1,u2]/\L2.aL (.ref e) u1/\L2.aL cv u2:=by
  cases r with|cons a b=>cases b with|cons b c=>cases c with|nil=>exact⟨_,_,rfl,a,b⟩
 obtain rfl:u1=Value.ref e:=r1;obtain rfl:=hu _ r2;obtain⟨ox,od,IA,_⟩:=qN I.hok he hd;exact kia_one (AV c.ga c.gk c.be c.hd c.cl c.cg c.ct c.ob) I.kIn ⟨ox,od,IA⟩ hk (λz=>nomatch z) λtk=>⟨.bl b,H,I.tok tk,rfl,q⟩
def Ps (C:Addr)(name:Str)(ta:TE):TE:=λσ H Q=>ta σ H λx H1=>∃e dx v,x=.ref e/\H1 e=some (XO e C (some dx))/\H1 dx=some (.xd [(name,v)])/\Q v H1
theorem KI {e:Expr}{name:Str}{pos:Pos}{ta:TE}(c:Ei X.K C)(Cg:findIn X.K (.ref C) name=some none)(he:PE X e ta)(hb:attributeBase e name X.env (eval e X.env)=eval e X.env:=by rfl):PE X (.Attribute e name pos) (Ps C name ta):=by
 intro ac s σ H Q I h;refine CD hb (cb (he ac s σ H _ I h) λu s1 ⟨x,H1,I1,rx,ea,dx,v,ex,h1,h2,q⟩=>?_);subst ex;obtain rfl:u=Value.ref ea:=rx;obtain⟨o,vs,a1,a2,a3,a4⟩:=Fs (I1.hok ea _ h1);obtain⟨mA,ns,IC⟩:=I1.hok dx _ h2;obtain⟨od,b1,b2⟩:=oK ns;obtain⟨u',eu,ru⟩:∃u',mA name=some u'/\L2.aL v u':=by
  have:=IC name;simp only[List.lookup,beq_self_eq_true]at this;cases q:mA name with
  |none=>rw[q]at this;exact this.elim
  |some u'=>rw[q]at this;exact⟨u',rfl,this⟩
 have IA:PySem.W.InstAt s1.heap ea o C (some od):=⟨a1,a2,by unfold PySem.W.notCls;rw[a4],by rw[a3];exact b1⟩;have hl:PySem.W.lookIn name od=some (some u'):=by rw[b2,eu]
 refine D8 I1.kIn IA c.ga c.gk c.be (PySem.W.findObj_own c.hd Cg rfl hl) ?_ ⟨v,H1,I1.tok _,ru,q⟩;cases v<;>first|(cases ru;rfl)|(obtain⟨_,z⟩:=ru;cases z;rfl)
end
end EX
namespace DL
open PySem PySem.Spec PyProof.Rows L2 EX
open PySem.W (Frag findIn mroIn keepIn isFn)
theorem yQ {H:Hp}{e C t0 dx:Addr}{name:Str}{v:V}{u:HO}(h1:H e=none)(h2:H dx=none):aQ H (upd (gP H e C t0 dx name v) e u):=λb o q=>by
 have n1:b≠e:=λz=>by rw[z,h1]at q;cases q
 have n2:b≠dx:=λz=>by rw[z,h2]at q;cases q
 rw[aA n1,Ho n1 n2];exact q
theorem qQ {H:Hp}{e C t0 dx:Addr}{name:Str}{v:V}{u:HO}(n:dx≠e):upd (gP H e C t0 dx name v) e u dx=some (.xd [(name,v)]):=by rw[aA n,Hn n]
structure FnX (P:Program)(w:World)(K:Frag)(mg:Str->Option Value)(base:Heap)(C:Addr)(name:Str)(k:Nat)(x:Str)(f:List D->OB):Prop where
 ex:∃(ad:Addr)(fd:FuncData)(ps:List Str),fH P w K mg base (lY P w) k ad fd ps (Mp K C name f)/\mg x=some (.ref ad)/\keepIn K (.ref ad)=true/\fm K fd ps []
structure FnS (P:Program)(w:World)(K:Frag)(mg:Str->Option Value)(base:Heap)(k:Nat)(x:Str)(sp:Sp):Prop where
 ex:∃(ad:Addr)(fd:FuncData)(ps:List Str),fH P w K mg base ml k ad fd ps sp/\mg x=some (.ref ad)/\keepIn K (.ref ad)=true/\fm K fd ps []
structure Exc (P:Program)(w:World)(K:Frag)(mg:Str->Option Value)(base:Heap)(x:Str)(C:Addr)(name:Str):Prop where
 nm:mg x=some (.ref C)
 ec:Ec K C
 ei:Ei K C
 na:findIn K (.ref C) name=some none
 init:∃fI fd ps,findIn K (.ref C) "__init__" = some (some (.ref fI))/\isFn K (.ref fI)=true/\fH P w K mg base ml 1 fI fd ps (IV C name)/\fm K fd ps []
section
variable {P:Program}{w:World}{K:Frag}{mg:Str->Option Value}{base:Heap}
theorem dN.fqX {x:Str}{st:Stmt}{k:Nat}{C:Addr}{name:Str}{F':List D->OB}(F:dN K x st)(B:∃h,K.In h/\h.Ns mainGlobals mg)(g:FS)(N:List Str)(n:Nat)
  (hb:∀ {f:Addr}{cf:Value}{A:Around}{outer:List PySem.Env}{s:Shared}{H:Hp}{E:XK},N.Nodup->cC k (A.deeper (envOfC x (ax st) s.heap.objs.size f cf))->(A.deeper (envOfC x (ax st) s.heap.objs.size f cf)).units+40<cLine ->
   DD (dG (lY P w) P w K mg base N x (ax st) f cf A outer s H E) (RE E C name) (bp st) g)
  (S:FnScope N (N.take n) (ax st):=by refine⟨rfl,rfl,rfl,?_,rfl,?_,?_⟩<;>decide +kernel)
  (wn:∀(kV doc pm:Value)(an:Option Addr)(cf ct:Value)(us:List Value),us.length=(N.take n).length->bindArgs (fnOf x x (cS st) (bp st) (ax st) .none kV doc pm an cf ct) ⟨us,[]⟩=pure ((N.take n).zip us):=by
   exact λ_ _ _ _ _ _=>AL _ _ (by(repeat intro);rfl))
  (e:iC g (N.take n).length (N.length - (N.take n).length)=F':=by rfl):FnX P w K mg base C name (k+1) x F':=by
 obtain⟨_,X,G⟩:=B;obtain⟨f,fd,F1,a⟩:=F;subst e;exact⟨f,fd,_,Nx F1 S λcf A outer s H E hr=>hb S.nd hr (Dk hr),mg_of X G a,F1.kp,F1.binds wn⟩
theorem dN.fqS {x:Str}{st:Stmt}{k:Nat}{sp:Sp}(F:dN K x st)(B:∃h,K.In h/\h.Ns mainGlobals mg)(N:List Str)(n:Nat)(len:∀vs H Q E,sp vs H Q E->vs.length=(N.take n).length)
  (hb:∀ {f:Addr}{cf:Value}{A:Around}{outer:List PySem.Env}{s:Shared}{H:Hp}{E:XK}{vs:List V}{Q:VK},N.Nodup->cC k (A.deeper (envOfC x (ax st) s.heap.objs.size f cf))->sp vs H Q E ->
   ∃t,lD (dG ml P w K mg base N x (ax st) f cf A outer s H E) (bp st) t/\t { nx:=λ_ H'=>Q .non H',rt:=Q } (L2.gv N vs) H)
  (S:FnScope N (N.take n) (ax st):=by refine⟨rfl,rfl,rfl,?_,rfl,?_,?_⟩<;>decide +kernel)
  (wn:∀(kV doc pm:Value)(an:Option Addr)(cf ct:Value)(us:List Value),us.length=(N.take n).length->bindArgs (fnOf x x (cS st) (bp st) (ax st) .none kV doc pm an cf ct) ⟨us,[]⟩=pure ((N.take n).zip us):=by
   exact λ_ _ _ _ _ _=>AL _ _ (by(repeat intro);rfl)):FnS P w K mg base (k+1) x sp:=by
 obtain⟨_,X,G⟩:=B;obtain⟨f,fd,F1,a⟩:=F;have F2:=F1;obtain⟨oc,od,kV,doc,pm,an,cf,ct,kW,rfl,lk,gH⟩:=F2.ex;exact⟨f,_,_,wC lk gH S len λA outer s H vs Q E hr FD=>hb S.nd hr FD,mg_of X G a,F1.kp,F1.binds wn⟩
theorem FnS.fn {x:Str}{k:Nat}{f:List D->OB}(F:FnS P w K mg base k x (Cr K f)):Fn P w K mg base k x f:=⟨F.ex⟩
end
section
variable {X:Cx}{C D:Addr}{x cx:Str}{p p1 p2 pos:Pos}{i:Nat}{b:Bool}
def HX (C:Addr)(name:Str)(i:Nat)(v:V)(σ:L2.St)(H:Hp):Prop:=∃e dx,σ[i]? = some (some (.ref e))/\H e=some (XO e C (some dx))/\H dx=some (.xd [(name,v)])
end
open PySem.W (Frag findIn mroIn keepIn isFn)
section
variable {P:Program}{w:World}{K:Frag}{mg:Str->Option Value}{base:Heap}
theorem DG {qual:Str}{st:Stmt}{f C:Addr}{fd:FuncData}{p1 p2 p3 p4:Pos}(F:Cy K "__init__" qual st f fd)(c:Ec K C)(Cg:findIn K (.ref C) "at" = some none)
  (hb:bp st=[.Assign [.Attribute (.Name "self" p1) "at" p2] (.Name "at" p3) p4]) (S:FnScope ["self","at"] ["self","at"] (ax st))
  (h1:(ax st).names.lookup ("self" : Str)=some .local) (h2:(ax st).names.lookup ("at" : Str)=some .local)
  (hs:∀(env:PySem.Env),swapsWith (.Name "at" p3) (some (.Attribute (.Name "self" p1) "at" p2)) p4.line env=pure false):fH P w K mg base ml 1 f fd ["self","at"] (IV C "at"):=by
 refine F.ok (k:=0) S (λvs H Q E ⟨e,t0,v,ev,_⟩=>by rw[ev];rfl) λcf A outer s H vs Q E hr h=>⟨KA C (rq 0) (rq 1) "at",?_,?_⟩
 ·rw[hb];exact hV (Hq c Cg (dR (i:=0) rfl (.inl h1)) (dR (i:=1) rfl (.inl h2)) (hs _))
 ·obtain⟨e,t0,v,rfl,he,q⟩:=h;exact⟨v,rfl,.ref e,rfl,e,t0,rfl,he,λdx hx=>q dx hx⟩
structure Raw (K:Frag)(x:Str)(st:Stmt)(C:Addr):Prop where
 nm:PySem.W.nsIn K mainGlobals x=some (some (.ref C))
 ec:Ec K C
 ei:Ei K C
 na:findIn K (.ref C) "at" = some none
 init:∃fI fd qual,findIn K (.ref C) "__init__" = some (some (.ref fI))/\isFn K (.ref fI)=true/\Cy K "__init__" qual st fI fd
theorem Raw.exc {x:Str}{st:Stmt}{C:Addr}{p1 p2 p3 p4:Pos}(R:Raw K x st C)(B:∃h,K.In h/\h.Ns mainGlobals mg)
  (hb:bp st=[.Assign [.Attribute (.Name "self" p1) "at" p2] (.Name "at" p3) p4]:=by rfl) (S:FnScope ["self","at"] ["self","at"] (ax st):=by refine⟨rfl,rfl,rfl,?_,rfl,?_,?_⟩<;>decide +kernel)
  (h1:(ax st).names.lookup ("self" : Str)=some .local:=by rfl) (h2:(ax st).names.lookup ("at" : Str)=some .local:=by rfl)
  (hs:∀(env:PySem.Env),swapsWith (.Name "at" p3) (some (.Attribute (.Name "self" p1) "at" p2)) p4.line env=pure false:=by intro _;rfl)
  (wn:∀(qual:Str)(kV doc pm:Value)(an:Option Addr)(cf ct:Value)(us:List Value),us.length=2->bindArgs (fnOf "__init__" qual (cS st) (bp st) (ax st) .none kV doc pm an cf ct) ⟨us,[]⟩=pure ((["self","at"]:List Str).zip us):=by
   exact λ_ _ _ _ _ _ _ us hl=>match us,hl with|[_,_],_=>rfl):Exc P w K mg base x C "at":=by
 obtain⟨_,X,G⟩:=B;obtain⟨fI,fd,qual,h3,h4,F⟩:=R.init;exact⟨mg_of X G R.nm,R.ec,R.ei,R.na,fI,fd,["self","at"],h3,h4,DG F R.ec R.na hb S h1 h2 hs,F.binds (wn qual)⟩
end
section
variable {X:Cx}{dp:Pos}
@[simp] noncomputable def SS:FE:=λ_=>some (.dk [] [],false)
end
open PySem.W (Frag findIn mroIn keepIn isFn)
theorem Hs {K:Frag}{S:Addr}{n:String}(q:PySem.W.excIn K S EX.Hm n=true):PySem.W.tailIn K EX.Hm (.ref S::EX.Hm)=true:=by
 unfold PySem.W.excIn at q;split at q
 ·rename_i dd cd sl ho;split at q
  ·simp only[vD]at q;have h0:PySem.W.tailIn K EX.Hm EX.Hm=true:=by unfold PySem.W.tailIn;rfl
   unfold PySem.W.tailIn;simp only[ho];rw[q.1.2,q.2,h0];rfl
  ·cases q
 ·cases q
theorem raw_mk {K:Frag}{x nm q qual:Str}{st:Stmt}{C N S fI:Addr}{bs:List Value}{sn:List Str}{sub:List Value}{ab:Bool}{col:Option Bool}{dd:Option Addr}{k0 k1 k2 k3 k5:Option Value}{oc kV doc pm cf ct:Value}{od an:Option Addr}{kW:Array (Option Value)}
  (a0:PySem.W.nsIn K mainGlobals x=some (some (.ref C))) (a1:K.lookup C=some (excClassObj nm q C N bs (.ref S::EX.Hm) true sn sub ab col dd k0 k1 k2 k3 k5 "ValueError.__new__")) (a2:keepIn K (.ref C)=true)
  (a3:findIn K (.ref C) "__setattr__" = some (some (.builtin "object.__setattr__"))) (a4:mroIn K C (.type "object")=some true)
  (a5:findIn K (.ref C) "__getattribute__" = some (some (.builtin "BaseException.__getattribute__"))) (a6:findIn K (.ref C) "__getattr__" = some none) (a7:mroIn K C (.type "BaseException")=some true) (a8:PySem.W.hasDictIn K C=true)
  (a9:findIn K (.ref C) "__class__" = some (some (.builtin "object.__class__"))) (b0:PySem.W.specialIn K (.builtin "object.__class__") "__get__" = some (some (.builtin "getset_descriptor.__get__"))) (b1:PySem.W.takesIn K (.builtin "object.__class__")=some true)
  (b2:findIn K (.ref C) "at" = some none) (b3:findIn K (.ref C) "__init__" = some (some (.ref fI))) (b4:isFn K (.ref fI)=true)
  (b5:K.lookup fI=some ⟨oc,od,.func (fnOf "__init__" qual (cS st) (bp st) (ax st) .none kV doc pm an cf ct),kW⟩) (b6:PySem.W.codeIn K cf qual=true) (b7:keepIn K (.ref fI)=true) (b8:PySem.W.excIn K S [.type "ValueError",.type "Exception",.type "BaseException",.type "object"] "ValueError.__new__" = true):Raw K x st C :=
 ⟨a0,⟨⟨_,_,_,_,_,_,_,_,_,_,_,_,_,_,_,a1,⟨Hs b8,rfl⟩,λself=>by rw[refuseLoop_ref];exact PySem.F.store_ValueError.passes self⟩,a2,a3,a4⟩,⟨a5,a6,a7,a8,a9,b0,b1,a4⟩,b2,fI,_,qual,b3,b4,Ad b5 b6 b7⟩
section
variable {K:Frag}{C D:Addr}
theorem Ht {b:Bool}{t:Value}(c1:PySem.W.isClsIn K D=true)(c2:PySem.W.typeIn K (.ref D)=some (.type "type"))(c3:PySem.W.subIn K t (.ref D)=some b):PySem.W.kitCls K t (.ref D)=some b:=by
 have c1:(PySem.W.clsIn K D).isSome=true:=c1;show(if((PySem.W.clsIn K D).isSome && PySem.W.typeIn K (.ref D) == some (.type "type"))=true then PySem.W.subIn K t (.ref D)else none)=_;rw[c1,c2,if_pos (by simp)];exact c3
theorem sR (c1:PySem.W.isClsIn K D=true)(c2:PySem.W.typeIn K (.ref D)=some (.type "type"))(c3:PySem.W.subIn K (.ref C) (.ref D)=some true):PySem.W.kitOne K (.ref C) (.ref D)=some true:=by
 unfold PySem.W.kitOne;split
 ·rfl
 ·exact Ht c1 c2 c3
theorem fL (c0:PySem.W.subIn K (.ref C) (.ref C)=some true)(c1:PySem.W.isClsIn K D=true)(c2:PySem.W.typeIn K (.ref D)=some (.type "type"))(c3:PySem.W.subIn K (.ref C) (.ref D)=some false):PySem.W.kitOne K (.ref C) (.ref D)=some false:=by
 unfold PySem.W.kitOne;split
 ·rename_i h;have:C=D:=Value.ref.inj (beq_iff_eq.mp h);rw[this]at c0 c3;rw[c0]at c3;cases c3
 ·exact Ht c1 c2 c3
theorem sS (c1:PySem.W.isClsIn K D=true)(c2:PySem.W.typeIn K (.ref D)=some (.type "type"))(c3:PySem.W.subIn K (.ref C) (.ref D)=some true)(c4:PySem.W.subIn K (.ref D) (.type "BaseException")=some true):PySem.W.exmOne K (.ref C) (.ref D)=some true:=by
 unfold PySem.W.exmOne;rw[c4,if_pos (by simp)];exact Ht c1 c2 c3
theorem Bb (c:PySem.W.subIn K (.ref C) (.type "ValueError")=some true):PySem.W.kitOne K (.ref C) (.type "ValueError")=some true:=by
 show(if PySem.W.kitMeta "ValueError" = true then PySem.W.subIn K (.ref C) (.type "ValueError")else none)=some true;rw[if_pos (by kernel_rfl)];exact c
end
end DL
namespace EX
open PySem PySem.Spec PyProof.Rows L2
open PySem.W (Frag findIn mroIn keepIn isFn)
section
variable {P:Program}{w:World}{K:Frag}{mg:Str->Option Value}{base:Heap}{N:List Str}{qual:Str}{scope:Scope}{f:Addr}{cd:Value}{A:Around}{outer:List Env}{s₀:Shared}{H₀:Hp}{E:XK}
theorem DH:jE (lY P w) (dG (lY P w) P w K mg base N qual scope f cd A outer s₀ H₀ E) E:=by
 intro ac σ H s ev s' I h;obtain⟨e,C,dx,T,H',rfl,os,bare,un,hok,FQ,he,hT,sT,se,q⟩:=h;have J:Inv (dG (lY P w) P w K mg base N qual scope f cd A outer s₀ H₀ E) ac σ H' s':=I.call' (ch:=[]) os un hok bare λ_ z=>nomatch z;have FR:∀b,s.heap.objs.size<=b->s₀.heap.objs.size<=b/\b≠(dG (lY P w) P w K mg base N qual scope f cd A outer s₀ H₀ E).env.locals/\(∀x c,(dG (lY P w) P w K mg base N qual scope f cd A outer s₀ H₀ E).env.cells.lookup x=some c->c≠b)/\∀p∈(dG (lY P w) P w K mg base N qual scope f cd A outer s₀ H₀ E).pn++ac,p.1≠b:=λb hb=>
  ⟨vR I.sz hb,Nat.ne_of_gt (vQ I.lt hb),λx c e z=>by obtain⟨v,o,ho,_⟩:=I.cell x c e;exact absurd (vX ho) (by rw[z];exact Nat.not_lt.mpr hb),λp hp z=>absurd (vX (I.pin p hp).1) (by rw[z];exact Nat.not_lt.mpr hb)⟩
 have gs:e<s'.heap.objs.size:=by obtain⟨o,_,a,_⟩:=FQ.ob;exact vX a
 have Jj:s.heap.objs.size<=s'.heap.objs.size:=vR se (Nat.le_of_lt gs);show wpAny _ _ (leaving _ (.ref e)) _ _ s';unfold leaving;refine wX (lu (base:=base) (outer:=outer) (L:=s₀.heap.objs.size) J.ok.frames J.stack rfl FQ λh1 T1 F1 hT1 K1=>?_);have J1:Inv (dG (lY P w) P w K mg base N qual scope f cd A outer s₀ H₀ E) ac σ H' { s' with heap:=h1 }:=by
  have:=fB (u:=XO e C (some dx)) (Ts:=[T]) (h':=h1) J he K1 (λb hb=>by rw[uU hb];exact⟨hT,FR T sT⟩) F1.xo;rwa [iU he]at this
 have tZ:H' T1=none:=hok.fresh hT1;refine wu.land (s:={ s' with heap:=h1 }) (fr:=s₀.heap.objs.size::kZ outer) F1 λh2 F2 K2=>?_;have J2:Inv (dG (lY P w) P w K mg base N qual scope f cd A outer s₀ H₀ E) ac σ H' { s' with heap:=h2 }:=by
  have:=fB (u:=XO e C (some dx)) (Ts:=[T1]) (h':=h2) J1 he (K2.more λb _ _ z=>mZ _ z) (λb hb=>by rw[uU hb];exact⟨tZ,FR T1 (vR Jj hT1)⟩) F2.xo;rwa [iU he]at this
 exact⟨e,C,dx,T1,H',rfl,J2.os,J2.bare,J2.base,J2.hok,F2,he,tZ,vR (vR I.sz Jj) hT1,vR I.sz se,q⟩
end
end EX
namespace DL
open PySem PySem.Spec PyProof.Rows L2 EX
open PySem.W (Frag findIn mroIn keepIn isFn)
section
variable {X:Cx}{E:XK}{C:Addr}{name x:Str}{k:Nat}{R:List D->OB}{e:Expr}{es:List Expr}{fa:FA}{p pos bU:Pos}
theorem Bc (F:FnX X.prog X.w X.K X.mg X.base C name k x R)(hr:cC k X.A)(hx:jE (lY X.prog X.w) X E)(ha:JA X (e::es) fa)(hg:Gl X x:=by rfl)
  (jW:(x == ("__debug__" : Str))=false:=by decide) (he:starEach (e::es) X.env=(false,eval e X.env)::starEach es X.env:=by rfl) (hpl:(backTo bU (starEach es X.env)).any (·.1)=false:=by rfl):
  PE X (.Call (.Name x p) (e::es) [] bU) (λσ H _=>tD X.K (fA R fa) σ H (RE E C name)):=by
 obtain⟨ad,fd,ps,F1,hm,hk,hb⟩:=F.ex;refine PE.to (wB F1 hr hg hm hk hb .nil hx ha jW he hpl) λσ H Q q=>?_;obtain⟨B,ρ,d,b,s,r,e,q⟩:=q;obtain⟨ds,ex,e⟩:=oX e;exact⟨B,ρ,ds,s,r,ex,λvs H1 N1 x1 i1=>by
  show Mp X.K C name R (vs++[]) H1 Q E;rw[uQ];exact⟨N1,ds,d,b,⟨x1.nh,r.tb.mono x1.bn⟩,i1,e,q.into x1⟩⟩
theorem DI (F:FnX X.prog X.w X.K X.mg X.base C name k x R)(hr:cC k X.A)(hx:jE (lY X.prog X.w) X E)(ha:JA X (e::es) fa)(hg:Gl X x:=by rfl)
  (jW:(x == ("__debug__" : Str))=false:=by decide) (he:starEach (e::es) X.env=(false,eval e X.env)::starEach es X.env:=by rfl) (hpl:(backTo bU (starEach es X.env)).any (·.1)=false:=by rfl):
  JX X (RE E C name) (.Return (some (.Call (.Name x p) (e::es) [] bU)) pos) (aI (fA R fa)) :=
 PS.to (la (Bc F hr hx ha hg jW he hpl)) λD _ _ q=>q0 (E:={ D with rt:=RE E C name }) q
end
end DL
namespace EX
open PySem PySem.Spec PyProof.Rows L2
open PySem.W (Frag findIn mroIn keepIn isFn)
section
variable {X:Cx}{C D:Addr}{ac:List (Addr×Obj)}{σ:L2.St}{H:Hp}{s:Shared}
theorem DJ {j:Nat}{n cx:Str}{p1 hp:Pos}{b₀:Stmt}{bs:List Stmt}{tb:TS}{Dn:Ends}{s':Shared}{E:XK}{ev:Value}(kU:X.stack=X.env::X.outer)(IF:X.env.frame=some X.env.locals)(hN:X.N.Nodup)
  (hj:X.N[j]? = some n) (hn:X.env.kindOf n=some .local) (OM:∀A' E',lD (vg X A' E') (b₀::bs) tb) (hg:Gl X cx) (hm:X.mg cx=some (.ref D)) (hx:PySem.W.exmOne X.K (.ref C) (.ref D)=some true)
  (I:Inv X ac σ H s) (h:lY X.prog X.w X.stack H s E ev s')
  (hE:∀c d H',E c d H'->∃dx fs,c=.ref C/\d=some dx/\H' dx=some (.xd fs)/\∀e,H' e=some (XO e C (some dx))->tb { nx:=λσ' H2=>Dn.nx (σ'.set j none) H2,rt:=λ_ _=>False } (σ.set j (some (.ref e))) H')
  (gH:(cx == ("__debug__" : Str))=false:=by decide):
  wq X (noteFrame ev X.env) (λ_ s₂=>wq X (setFlight ev none) (λ_ s₃=>wq X (handleBy ev X.env [.ExceptHandler (some (.Name cx p1)) (some n) (b₀::bs) hp]) (SP X ac Dn) X.xe s₃) X.xe s₂) X.xe s':=by
 obtain⟨e,C',dx,T,H',rfl,os,bare,un,hok,FQ,he,hT,sT,se,q⟩:=h;obtain⟨Su,fs,c1,c2,hd,q⟩:=hE _ _ _ q;cases c1;cases c2
 have J:Inv X ac σ H' s':=I.call' (ch:=[]) os un hok bare λ_ z=>nomatch z;have FR:∀b,s.heap.objs.size<=b->X.s₀.heap.objs.size<=b/\b≠X.env.locals/\(∀x c,X.env.cells.lookup x=some c->c≠b)/\∀p∈X.pn++ac,p.1≠b:=λb hb=>
  ⟨vR I.sz hb,Nat.ne_of_gt (vQ I.lt hb),λx c e z=>by obtain⟨v,o,ho,_⟩:=I.cell x c e;exact absurd (vX ho) (by rw[z];exact Nat.not_lt.mpr hb),λp hp z=>absurd (vX (I.pin p hp).1) (by rw[z];exact Nat.not_lt.mpr hb)⟩
 have OL:kZ X.stack=X.env.locals::X.outer.filterMap (·.frame):=by rw[kU];unfold kZ;rw[List.filterMap_cons,IF]
 have Jj:s.heap.objs.size<=s'.heap.objs.size:=by
  rcases Nat.lt_or_ge s'.heap.objs.size s.heap.objs.size with z|z
  ·obtain⟨o,_,a,_⟩:=FQ.ob;exact absurd (vX a) (Nat.not_lt.mpr (vR (Nat.le_of_lt z) se))
  ·exact z
 refine lu (base:=X.base) (outer:=X.outer) (L:=X.env.locals) (by rw[←kU];exact J.ok.frames) (by rw[←kU];exact J.stack) IF FQ λh1 T1 F1 hT1 K1=>?_;have J1:Inv X ac σ H' { s' with heap:=h1 }:=by
  have:=fB (u:=XO e C (some dx)) (Ts:=[T]) (h':=h1) J he (by rw[OL];exact K1) (λb hb=>by rw[uU hb];exact⟨hT,FR T sT⟩) F1.xo;rwa [iU he]at this
 have tZ:H' T1=none:=hok.fresh hT1;have Ch:=FR T1 (vR Jj hT1);refine wu.land (s:={ s' with heap:=h1 }) (fr:=kZ X.stack) F1 λh2 F2 K2=>?_;have J2:Inv X ac σ H' { s' with heap:=h2 }:=by
  have:=fB (u:=XO e C (some dx)) (Ts:=[T1]) (h':=h2) J1 he (K2.more λb _ _ z=>mZ _ z) (λb hb=>by rw[uU hb];exact⟨tZ,Ch⟩) F2.xo;rwa [iU he]at this
 refine wpAny_handleBy_cons (codeAny_handlers_test ?_) (λz=>nomatch z);refine hJ (X:=vg X (X.A.mark (some (.ref e))) X.xe) (qM J2 rfl) hg hm ?_ gH;obtain⟨ox,od,IA,Sv⟩:=qN (s:={ s' with heap:=h2 }) J2.hok he hd;refine(PySem.W.exm_one J2.kIn IA.type hx).here ?_;show codeAny _ _ _ _ _;refine codeAny_handlers_suite_as ?_;refine wu.land (s:={ s' with heap:=h2 }) (fr:=kZ X.stack) F2 λh3 F3 K3=>?_;have J3:Inv X ac σ H' { s' with heap:=h3 }:=by
  have:=fB (u:=XO e C (some dx)) (Ts:=[T1]) (h':=h3) J2 he (K3.more λb _ _ z=>mZ _ z) (λb hb=>by rw[uU hb];exact⟨tZ,Ch⟩) F3.xo;rwa [iU he]at this
 refine ka J3 hN hj (.inl hn) (show L2.aL (.ref e) (.ref e)from rfl) (λs4 J4=>?_) (.inr hn);refine wpAny_mono (OM (X.A.mark (some (.ref e))) _ ac s4 _ H' { nx:=λσ' H2=>Dn.nx (σ'.set j none) H2,rt:=λ_ _=>False } (qM J4 rfl) (q e he)) (λf s5 h5=>?_) λ_ _ z=>z;cases f with
 |next=>
  obtain⟨σ5,H5,J5,q5⟩:=h5;have J5:=sQ I.ok J5;obtain⟨m,Mb,_⟩:=id J5.loc;refine wpAny_nameGoes_keeps hn Mb (by rw[I.ok.kind];rfl) λh6 v hn6 hs6=>?_;exact⟨_,_,sP J5 hN hj hn Mb hn6 hs6,q5⟩
 |ret u=>obtain⟨_,_,_,_,_,z⟩:=h5;exact z.elim
 |brk=>obtain⟨_,_,_,z⟩:=h5;exact z.elim
 |cont=>obtain⟨_,_,_,z⟩:=h5;exact z.elim
variable {fa:Addr}
def KJ (sp:Sp)(t:TA)(C:Addr)(j:Nat)(tb:TS):TS:=λDn σ H=>t σ H λvs H1=>sp vs H1 (λ_ _=>False) λc d H'=>∃dx fs,c=.ref C/\d=some dx/\H' dx=some (.xd fs) /\
 ∀e,H' e=some (XO e C (some dx))->tb { nx:=λσ' H2=>Dn.nx (σ'.set j none) H2,rt:=λ_ _=>False } (σ.set j (some (.ref e))) H'
theorem DK {k j:Nat}{b₀:Stmt}{bs:List Stmt}{tb:TS}{fd:FuncData}{ps:List Str}{sp:Sp}{t:TA}{a:Expr}{x n cx:Str}{p p1 hp bU ep pos:Pos}(F:fH X.prog X.w X.K X.mg X.base (lY X.prog X.w) k fa fd ps sp)(hr:cC k X.A)(hg:Gl X x)(hm:X.mg x=some (.ref fa))(hk:keepIn X.K (.ref fa)=true)
  (hb:fm X.K fd ps []) (ha:PA X.nox [a] t) (kU:X.stack=X.env::X.outer) (IF:X.env.frame=some X.env.locals) (hN:X.N.Nodup)
  (hj:X.N[j]? = some n) (hn:X.env.kindOf n=some .local) (OM:∀A' E',lD (vg X A' E') (b₀::bs) tb) (Sx:Gl X cx) (Sy:X.mg cx=some (.ref D)) (hx:PySem.W.exmOne X.K (.ref C) (.ref D)=some true)
  (jW:(x == ("__debug__" : Str))=false:=by decide) (he:starEach [a] X.env=(false,eval a X.env)::starEach [] X.env:=by rfl)
  (gH:(cx == ("__debug__" : Str))=false:=by decide) (wo:interactive X.env=false:=by rfl) (Sz:swapsWith (.Call (.Name x p) [a] [] bU) none ep.line X.env=pure false:=by rfl):
  PS X (.Try [.Expr (.Call (.Name x p) [a] [] bU) ep] [.ExceptHandler (some (.Name cx p1)) (some n) (b₀::bs) hp] [] [] pos) (KJ sp t C j tb):=by
 intro ac s σ H Dn I h;refine wpAny_Try_except (wpAny_execs_cons (wpAny_Expr ?_ wo Sz));refine wpAny_Call_Name_kw (hJ I hg hm ?_ jW);refine PySem.W.callWith_K (h₀:=X.base) I.ok.mod.kin hk (wpAny_mono (ha bU ac s σ H _ (I.wish _) h) (λus s1 ⟨vs,H1,I1,r,q⟩=>⟨I1.kIn,?_⟩) λ_ _ z=>False.elim z) he rfl;have I1:Inv X ac σ H1 s1:=I1.unwish;have hl:us.length=ps.length:=by rw[←r.length];exact F.len _ _ _ _ q
 refine wpAny_call (codeAny_mono (F.run X.A X.stack s1 H1 ⟨us,[]⟩ us vs _ _ hr I1.env0 (by have:=hb s1 us I1.kIn (by rw[uQ];exact hl);rwa [uQ]at this) r q) λr s' hq=>?_);cases r with
 |error e=>
  dsimp only[CR]at hq;exact DJ kU IF hN hj hn OM Sx Sy hx I1 hq (λc d H' z=>z) gH
 |ok fl=>
  cases fl with
  |ret u=>obtain⟨_,_,_,_,_,_,_,z⟩:=hq;exact z.elim
  |next=>exact False.elim hq
  |brk=>exact False.elim hq
  |cont=>exact False.elim hq
end
end EX
namespace DL
open PySem PySem.Spec PyProof.Rows L2 EX
open PySem.W (Frag findIn mroIn keepIn isFn)
theorem Ft {X:Cx}{RT:VK}{st:Stmt}{g:FS}(h:JS X st g)(hn:∀ρ d b,g ρ≠some (.rt d b)):JX X RT st g:=PS.to h λE σ H ⟨B0,H0,ρ,r,s,e,p⟩=>⟨B0,H0,ρ,r,s,e,by
 cases r with
 |rt d b=>exact absurd e (hn _ _ _)
 |_=>exact p⟩
theorem Bd {i:Nat}{f:FE}:∀ρ d b,aP i f ρ≠some (.rt d b):=λρ d b h=>by
 simp only[aP]at h;cases e:f ρ with
 |none=>rw[e]at h;cases h
 |some x=>rw[e]at h;cases h
section
variable {X:Cx}
theorem Be {ac:List (Addr×Obj)}{s:Shared}{σ:L2.St}{H B:Hp}(I:Inv X ac σ H s)(sB:aQ B H):∀ {vs:List V}{ds:List D}{us:List Value},aS vs us->IsL X.K B vs ds->ds.all Fo=true->us.map sM=ds.map ci
 |_,_,_,.nil,.nil,_=>rfl
 |_,_,_,.cons r rr,.cons i ii,h=>by
  rw[List.all_cons,vD]at h;have e1:=Be I sB rr ii h.2;rw[uZ,uZ,e1];congr 1;cases i<;>try (cases h.1;done)
  ·cases r;rfl
  ·rename_i hq hl;cases r;rfl
def Nz (K:Frag):V->List V->Hp->VK->Prop:=λx vs H Q=>∃(l:Addr)(ws:List V)(ds:List D)(B:Hp),x=.ref l/\vs=[.non]/\fO K H l ws/\aQ B H/\IsL K B ws ds/\ds.all Fo=true/\ds.findIdx ci<ds.length/\Q (.int (ds.findIdx ci:Nat)) H
theorem Hu (hu:X.A.units+40<cLine):Na X "list.index" (Nz X.K):=by
 intro ac s σ H x vs v us Q I rx rv h;obtain⟨l,ws,ds,B,rfl,rfl,hH,sB,hl,ha,hk,q⟩:=h;cases rx
 obtain⟨u,rfl,ru⟩:=rv.one;cases ru
 obtain⟨its,r,⟨o,m,e,hc,LR,hd⟩,z⟩:=I.list hH;have hm:=Be I sB r hl ha;have bC:its.length=ds.length:=by have:=congrArg List.length hm;simpa using this
 have at':∀(i:Nat)(hi:i<its.length),sM its[i]=ci (ds[i]'(by omega)):=λi hi=>by
  have:=congrArg (λl=>l[i]?) hm;simp only[vB,vU hi,vU (show i<ds.length by omega)]at this;simpa using this
 obtain⟨oc,od,Qv,kW⟩:=o;dsimp only at hc LR hd;subst hc LR hd;have hz:sizeLine<2 ^ 63 - 1:=by decide
 have FH:=r.length;have hj:ds.findIdx ci<its.length:=by omega
 refine call_meets PySem.F.slot_list_index ⟨_,e,rfl⟩ PySem.F.entry_list_index (PySem.F.args_list_index_2 _ _)
  (PySem.SeqAt.list_indexAt l its.toArray m none kW .none sM (ds.findIdx ci) (by simpa using hj) (by omega) ?_ (λi LA gs=>?_)) ⟨e,λy hy=>?_,?_⟩
 ·simp only[List.getElem_toArray];rw[at' _ hj];exact List.findIdx_getElem (w:=hk)
 ·simp only[List.getElem_toArray];rw[at' i (by simpa using LA)];have:=List.not_of_lt_findIdx (p:=ci) (xs:=ds) gs;simpa using this
 ·exact(uX I sB (by exact show _<cLine from by first|exact(by omega:X.A.units<cLine)|exact(by omega:X.A.units+1<cLine)|exact(by omega:X.A.units+2<cLine)) r hl ha).2 y (by simpa using hy)
 ·exact⟨.int (ds.findIdx ci:Nat),H,I.tok _,⟨_,rfl⟩,q⟩
@[simp] noncomputable def Bf:D->D->OB
 |.lst ds,.non=>if ds.all Fo=true/\ds.findIdx ci<ds.length then some (.int (ds.findIdx ci:Nat),false)else none
 |_,_=>none
variable {a e:Expr}
theorem Hv {eW bU:Pos}{fa f:FE}(hu:X.A.units+40<cLine)(ha:JE X a fa)(he:JE X e f)(gl:attributeBase a "index" X.env (eval a X.env)=eval a X.env:=by rfl)
  (om:((backTo bU (starEach [e] X.env)).all (λx=>!x.1) && (backToKw bU (keywordEach [] X.env)).all (λx=>x.1.isSome)
   && decide ([e].length+([]:List Keyword).length+(if([]:List Keyword).isEmpty then 0 else 1)<30))=true:=by rfl)
  (gm:(eW.endLine == bU.line)=true:=by rfl) (hs:starEach [e] X.env=[(false,eval e X.env)]:=by rfl):JE X (.Call (.Attribute a "index" eW) [e] [] bU) (f2 Bf fa f):=by
 refine PE.to (rC PySem.F.plainAttrs_list PySem.F.slot_list_index PySem.F.type_list_index (Hu hu) ha (bI he dq hs) gl om gm hs rfl) λσ H Q q=>?_;obtain⟨B,ρ,d,bb,sB,r,ee,gY⟩:=q;obtain⟨⟨xd,xb⟩,ex,ee⟩:=oX ee;obtain⟨⟨yd,yb⟩,ey,ee⟩:=oX ee;cases xd<;>try (cases ee;done)
 cases yd<;>try (cases ee;done)
 simp only[Bf]at ee;split at ee
 ·rename_i hk;cases ee
  refine⟨B,ρ,_,_,sB,r,ex,λv H1 N1 x1 i1 f1=>?_⟩;clear f1;cases i1
  rename_i l ws h m1;refine⟨.inl ⟨rfl,_,x1.nh.seq h⟩,N1,ρ,_,_,x1.nh,r.mono x1.bn,ey,λw H2 N2 x2 i2 _=>?_⟩;have Jk:=x1.trans x2;cases i2
  exact⟨l,ws,_,N2,rfl,rfl,x2.nh.seq (x2.bn.seq h),x2.nh,m1.mono x2.bn,hk.1,hk.2,(gY.into Jk).one Jk.nh (.int _)⟩
 ·cases ee
end
open PySem.W (Frag findIn mroIn keepIn isFn)
def yR (C:Addr)(name:Str)(i:Nat)(b:Bool):TE:=λσ H Q=>(∃v,HX C name i v σ H)/\Q (.bl b) H
section
variable {X:Cx}{C D:Addr}{x cx:Str}{p p1 p2 pos:Pos}{i:Nat}{b:Bool}
theorem ni {y name:Str}{u:Value}{v:V}(c:Ei X.K C)(hn:X.mg "isinstance" = none)(hi:X.N[i]? = some y)(hv:Cm X.env.scope y)(hp:PE X (.Name cx p2) (tC v))(hu:∀u',L2.aL v u'->u'=u)(hk:PySem.W.kitOne X.K (.ref C) u=some b)
  (hg:Gl X "isinstance":=by rfl) (hd:(y == ("__debug__" : Str))=false:=by decide) (gH:(y == ("__classdict__" : Str))=false:=by decide)
  (he:starEach [.Name y p1,.Name cx p2] X.env=(false,eval (.Name y p1) X.env)::starEach [.Name cx p2] X.env:=by rfl) (FN:starEach [.Name cx p2] X.env=(false,eval (.Name cx p2) X.env)::starEach [] X.env:=by rfl)
  (hpl:(backTo pos (starEach [.Name cx p2] X.env)).any (·.1)=false:=by rfl):
  PE X (.Call (.Name "isinstance" p) [.Name y p1,.Name cx p2] [] pos) (yR C name i b) :=
 PE.to (ke (KH c) hg hn rfl (bI (dR hi hv hd gH) (bI hp dq FN) he) (he:=he) (hpl:=hpl)) λσ H Q ⟨⟨w,e,dx,h1,h2,h3⟩,q⟩=>⟨.ref e,h1,e,dx,_,v,u,b,rfl,h2,h3,hu,hk,q⟩
end
section
variable {K:Frag}{C:Addr}{name:Str}
def Pu (K:Frag)(C:Addr)(name:Str)(b c:Bool):TS:=ud (rz (G7 (iK (yR C name 3 b) (iK (yR C name 3 c) (iK (yR C name 3 true) r6)))) (gI 1))
 (ud (rz (Jz (rD K aF) (rq 1) (G7 (iK (yR C name 3 false) (iK (yR C name 3 false) r6)))) (gI 1)) (rz (rq 3) (gI 2)))
noncomputable abbrev Bg (b c:Bool):D:=.lst [.bl b,.bl c,.bl true,.bl false,.bl false]
theorem Hw {b c:Bool}{N H:Hp}{e dx:Addr}{v:V}{a0 a1 a2 a4:Option V}{Dn:Ends}(sN:aQ N H)(h1:H e=some (XO e C (some dx)))(h2:H dx=some (.xd [(name,v)]))
  (k:∀x H' N',Ext N N' H H'->Is K N' x (Bg b c)->Dn.nx [a0,some x,some (.ref e),some (.ref e),a4] H'):Pu K C name b c Dn [a0,a1,a2,some (.ref e),a4] H:=by
 have sl:5<=sizeLine:=by rw[sizeLine_eq];omega
 have hx:∀ {H'} {b1 b2},aQ H H'->∃w,HX C name 3 w [a0,b1,b2,some (.ref e),a4] H':=λs=>⟨v,e,dx,rfl,s _ _ h1,s _ _ h2⟩;refine⟨hx (.refl _),hx (.refl _),hx (.refl _),vR (by decide:3<=5) sl,λp hp=>?_⟩;have x1:=Ext.laid (o:=.lst [.bl b,.bl c,.bl true]) sN hp;refine⟨.ref p,rfl,hx x1.hh,hx x1.hh,vR (by decide:2<=5) sl,λp2 hp2=>?_⟩;have x2:=Ext.laid (o:=.lst [.bl false,.bl false]) x1.nh hp2;refine⟨_,.lst [.bl b,.bl c,.bl true],.lst [.bl false,.bl false],Bg b c,?_,x2.nh,.lst (fO.of (x2.bn _ _ av)) (.cons (.bl _) (.cons (.bl _) (.cons (.bl _) .nil))),.lst (fO.of av) (.cons (.bl _) (.cons (.bl _) .nil)),?_,λx H' N' x3 ix _=>?_⟩;rotate_left
 ·first|rfl|(simp[aF];exact⟨_,rfl⟩)
 ·exact⟨.ref e,rfl,k x H' N' ((x1.trans x2).trans x3) ix⟩
theorem Bh {c1 c2:FT}{fk:FE}{r1 r2:TS}{L d:D}{kind:Str}{b:Bool}{B N H0 H:Hp}{e dx:Addr}{x v:V}{a0:Option V}{Q:VK}{nx:L2.St->Hp->Prop}(S0:c1 [none,some (L,false),none,none,none]=some false)(hk:fk [none,some (L,false),none,none,none]=some (.str kind,b))
  (Io:c2 [none,some (L,false),none,none,some (.str kind,false)]=some false) (tb:Tb K B) (X:Ext B N H0 H) (ix:Is K N x L) (iv:Is K N v d) (h1:H e=some (XO e C (some dx))) (h2:H dx=some (.xd [(name,v)])) (q:Fin K B H0 (.tup [.str kind,d]) false Q):
  ud (C5 (uu K c1) r1 wy) (ud (rz (tD K fk) (gI 4)) (ud (C5 (uu K c2) r2 wy) (C4 (JG (iK (rq 4) (iK (Ps C name (rq 2)) r6)))))) { nx:=nx,rt:=Q } [a0,some x,some (.ref e),none,none] H:=by
 have sl:2<=sizeLine:=by rw[sizeLine_eq];omega
 have r1:∀ {y:Option V}{N':Hp},aQ N N'->eA K N' [a0,some x,some (.ref e),none,y] [none,some (L,false),none,none,none]:=λs=>⟨(tb.mono X.bn).mono s,λi d b z=>by
  match i,z with
  |0,z=>cases z
  |1,z=>cases z;exact⟨x,rfl,ix.mono s⟩
  |2,z=>cases z
  |3,z=>cases z
  |4,z=>cases z
  |n+5,z=>cases z⟩
 refine⟨N,_,false,X.nh,r1 (.refl _),S0,λH1 s1=>?_⟩;have X1:=X.trans (Ext.grow X.nh s1);refine⟨N,_,_,_,X1.nh,r1 (.refl _),hk,λv2 H2 N2 x2 i2 _=>?_⟩;cases i2
 have r2:eA K N2 [a0,some x,some (.ref e),none,some (.str kind)] [none,some (L,false),none,none,some (.str kind,false)]:=⟨(tb.mono X.bn).mono x2.bn,λi d b z=>by
  match i,z with
  |0,z=>cases z
  |1,z=>cases z;exact⟨x,rfl,ix.mono x2.bn⟩
  |2,z=>cases z
  |3,z=>cases z
  |4,z=>cases z;exact⟨_,rfl,.str _⟩
  |n+5,z=>cases z⟩
 have X2:=X1.trans x2;refine⟨N2,_,false,X2.nh,r2,Io,λH3 s3=>?_⟩;have X3:=X2.trans (Ext.grow X2.nh s3);have s:aQ H H3:=(s1.trans x2.hh).trans s3;refine⟨.str kind,rfl,.ref e,rfl,e,dx,v,rfl,s _ _ h1,s _ _ h2,sl,λp hp=>?_⟩;have x4:=Ext.laid (o:=.tup [.str kind,v]) X3.nh hp;exact q _ _ _ (X3.trans x4) (.tup (gA.of av) (.cons (.str _) (.cons ((iv.mono x2.bn).mono x4.bn) .nil))) (λz=>nomatch z)
end
end DL
namespace DL
open PySem PySem.Spec PyProof.Rows L2
theorem KL {X:Cx}{k j:Nat}{x:Str}{f:List D->OB}{p pos:Pos}(F:Fn X.prog X.w X.K X.mg X.base k x f)(hr:cC j X.A)(hj:k<=j:=by decide)(hg:Gl X x:=by rfl)(jW:(x == ("__debug__" : Str))=false:=by decide):JE X (.Call (.Name x p) [] [] pos) (fA f al):=by
 obtain⟨ad,fd,ps,F1,hm,hk,hb⟩:=F.ex;refine PE.to (zS F1 (hr.mono hj) hg hm hk hb .nil ER jW) λσ H Q q=>?_;obtain⟨B,ρ,d,b,s,r,e,q⟩:=q;have e:f []=some (d,b):=e;exact⟨B,[],d,b,⟨s,r.tb⟩,.nil,e,q⟩
end DL
namespace DL
open PySem L2
theorem sU (I:Nat->Env->Prop)(ds:List D)(ρ0:Env)(h0:I 0 ρ0)
  (step:∀i d ρ,ds[i]? = some d->I i ρ->∃ρ1 ρ',tg d ρ=some ρ1/\(g ρ1=some (.nx ρ')∨g ρ1=some (.ct ρ'))/\I (i+1) ρ'):
  ∃ρ',eD tg g ds ρ0=some (.nx ρ')/\I ds.length ρ':=by
 have key:∀(es:List D)(i:Nat)(ρ:Env),ds.drop i=es->i+es.length=ds.length->I i ρ->∃ρ',eD tg g es ρ=some (.nx ρ')/\I ds.length ρ':=by
  intro es;induction es with
  |nil=>intro i ρ e hl h;refine⟨ρ,by rw[Aj],?_⟩;rw[←hl];exact h
  |cons d es ih=>
   intro i ρ e hl h;have hd:ds[i]? = some d:=by
    have:(ds.drop i)[0]? = some d:=by rw[e];rfl
    rwa [List.getElem?_drop,Nat.add_zero]at this
   obtain⟨ρ1,ρ',h1,h2,h3⟩:=step i d ρ hd h;have he:ds.drop (i+1)=es:=by rw[←List.drop_drop,e];rfl
   obtain⟨ρ2,k1,k2⟩:=ih (i+1) ρ' he (by simp at hl;omega) h3;refine⟨ρ2,?_,k2⟩;rw[jl,h1];rcases h2 with h2|h2<;>simp only[vJ,h2]<;>exact k1
 exact key ds 0 ρ0 (by simp) (by simp) h0
theorem nj (n:Nat)(I:Nat->Env->Prop)(ρ0:Env)(h0:I 0 ρ0)
  (step:∀(i:Nat) ρ,i<n->I i ρ->∃ρ1 ρ',tg (.int (i:Int)) ρ=some ρ1/\(g ρ1=some (.nx ρ')∨g ρ1=some (.ct ρ'))/\I (i+1) ρ'):
  ∃ρ',eD tg g (cP 0 n) ρ0=some (.nx ρ')/\I n ρ':=by
 have hl:(cP 0 n).length=n:=by simp[cP]
 obtain⟨ρ',h1,h2⟩:=sU (tg:=tg) (g:=g) I (cP 0 n) ρ0 h0 λi d ρ hd h=>by
  unfold cP at hd;rw[vB]at hd;obtain⟨k,hk,hd⟩:=oY hd;obtain⟨gs,hk⟩:=vV hk;rw[List.length_range]at gs;rw[List.getElem_range]at hk;subst hk;rw[Int.zero_add]at hd;subst hd;exact step i ρ gs h
 rw[hl]at h2;exact⟨ρ',h1,h2⟩
theorem nk {α:Type}{xs:List α}{j:Nat}(h:j<xs.length):qp xs (j:Int)=some xs[j]:=CL (by simp[h])
theorem qR {α:Type}{xs:List α}{i:Int}(h0:0<=i)(h:i.toNat<xs.length):qp xs i=some xs[i.toNat]:=by
 have:=nk h;rwa [Int.toNat_of_nonneg h0]at this
@[simp] theorem sV (xs:List Int):bR (xs.map D.int)=true:=by
 induction xs with
 |nil=>simp
 |cons x xs ih=>simp[ih]
@[simp] theorem Ct (n:Nat)(xs:List Int):(xs.map D.int).all (bW n)=true:=by
 induction xs with
 |nil=>simp
 |cons x xs ih=>simpa using ih
@[simp] theorem DM (xs:List Int):(xs.map D.int).all fX=true:=by
 induction xs with
 |nil=>simp
 |cons x xs ih=>simpa using ih
theorem pB (n:Nat):cP 0 n=((List.range n).map λ(k:Nat)=>(k:Int)).map D.int:=by
 unfold cP;rw[uP];apply List.map_congr_left;intro k _;simp
mutual
def kB:D->D->Bool
 |.non,.non=>true
 |.bl a,.bl b=>a == b
 |.int a,.int b=>decide (a=b)
 |.str a,.str b=>decide (a=b)
 |.ty a,.ty b=>decide (a=b)
 |.tup xs,.tup ys=>np xs ys
 |.lst xs,.lst ys=>np xs ys
 |_,_=>false
def np:List D->List D->Bool
 |[],[]=>true
 |x::xs,y::ys=>kB x y && np xs ys
 |_,_=>false
end
mutual
theorem xr:∀ {x y:D},kB x y=true->x=y
 |.non,.non,_=>rfl
 |.bl a,.bl b,h=>by simp[kB]at h;rw[h]
 |.int a,.int b,h=>by simp[kB]at h;rw[h]
 |.str a,.str b,h=>by simp[kB]at h;rw[h]
 |.ty a,.ty b,h=>by simp[kB]at h;rw[h]
 |.tup xs,.tup ys,h=>by rw[kB]at h;rw[nq h]
 |.lst xs,.lst ys,h=>by rw[kB]at h;rw[nq h]
theorem nq:∀ {xs ys:List D},np xs ys=true->xs=ys
 |[],[],_=>rfl
 |x::xs,y::ys,h=>by
  rw[np,vD]at h;rw[xr h.1,nq h.2]
end
def DN (r:OB)(d:D)(b:Bool):Bool:=match r with
 |some (e,c)=>kB e d && c == b
 |none=>false
theorem bT (h:DN r d b=true):r=some (d,b):=by
 unfold DN at h;split at h
 ·rw[vD]at h;rw[xr h.1,eq_of_beq h.2]
 ·cases h
section
variable {f:FE}{c:FT}{g g' h:FS}{ρ ρ':Env}{i:Nat}{d:D}{b:Bool}{r:Option Res}{ds:List D}
theorem au (hl:ds.length=n)(e:g (ds.map (λd=>some (d,false))++List.replicate k none)=some (.rt d b)):aR g n k ds=some (d,b):=by
 unfold aR;rw[if_pos hl,e]
theorem pD (n:b9 d=true):setE ρ i d b=ρ.set i (some (d,false)):=by unfold setE;rw[if_pos n]
theorem sW (n:bR ds=true):setE ρ i (.lst ds) true=ρ.set i (some (.lst ds,true)):=by
 unfold setE;rw[if_neg (by simp),if_pos ⟨rfl,by simpa using n⟩]
theorem DO (n:b9 d=false)(m:b=false∨rG d=false):setE ρ i d b=(unown ρ).set i (some (d,false)):=by
 unfold setE;have hz:¬(b=true/\rG d=true):=λz=>by
  rcases m with m|m
  ·rw[m]at z;exact absurd z.1 (by decide)
  ·rw[m]at z;exact absurd z.2 (by decide)
 rw[if_neg (by simp[n]),if_neg hz]
theorem Bi (e:f ρ=some (d,b))(k:h (setE ρ i d b)=r):ay (aP i f) h ρ=r:=by simp[e];exact k
theorem iV (e:f ρ=some (d,b))(n:b9 d=true)(k:h (ρ.set i (some (d,false)))=r):ay (aP i f) h ρ=r:=Bi e (by rw[pD n];exact k)
theorem gQ (e:f ρ=some (.lst ds,true))(n:bR ds=true)(k:h (ρ.set i (some (.lst ds,true)))=r):ay (aP i f) h ρ=r:=Bi e (by rw[sW n];exact k)
theorem N0 (e:f ρ=some (d,b))(n:b9 d=false)(m:b=false∨rG d=false)(k:h ((unown ρ).set i (some (d,false)))=r):ay (aP i f) h ρ=r:=Bi e (by rw[DO n m];exact k)
theorem iD (e:g ρ=some (.nx ρ'))(k:h ρ'=r):ay g h ρ=r:=by unfold ay;rw[e];exact k
theorem DP (e:g ρ=some (.rt d b)):ay g h ρ=some (.rt d b):=by unfold ay;rw[e]
theorem yS (e:c ρ=some true)(k:g ρ=r):cY c g g' ρ=r:=by unfold cY;rw[e];exact k
theorem Bj (e:c ρ=some false)(k:g' ρ=r):cY c g g' ρ=r:=by unfold cY;rw[e];exact k
theorem bL (e:c ρ=some true)(k:g ρ=some (.rt d b)):ay (cY c g g') h ρ=some (.rt d b):=DP (yS e k)
theorem ar (e:c ρ=some false)(k:h ρ=r):ay (cY c g aJ) h ρ=r:=iD (Bj e rfl) k
theorem aE (e:f ρ=some (d,b)):aI f ρ=some (.rt d b):=by simp[e]
theorem xu (e:ρ[i]? = some (some (d,b)))(hb:ET d=false:=by rfl):mC i ρ=some (.rt d b):=by simp only[mC,e,hb];simp
theorem Bk (e:f ρ=some (d,b))(n:b9 d=true):aP i f ρ=some (.nx (ρ.set i (some (d,false)))):=by
 show(f ρ).map _=_;rw[e,Option.map_some,pD n]
theorem DQ (e:f ρ=some (.lst ds,true))(n:bR ds=true):aP i f ρ=some (.nx (ρ.set i (some (.lst ds,true)))):=by
 show(f ρ).map _=_;rw[e,Option.map_some,sW n]
theorem vi (e:ρ[i]? = some (some (.lst ds,true)))(ef:f ρ=some (d,b))(n:b9 d=true)(l:ds.length<sizeLine):rH i f ρ=some (.nx (ρ.set i (some (.lst (ds++[d]),true)))):=by
 simp[e,ef,n,l]
theorem KN (e:ρ[i]? = some (some (.lst ds,true)))(ef:f ρ=some (d,b))(n:b9 d=true)(l:ds.length<sizeLine)(k:h (ρ.set i (some (.lst (ds++[d]),true)))=r):ay (rH i f) h ρ=r:=iD (vi e ef n l) k
theorem nu (e:fi ρ=some ds)(k:eD tg g ds ρ=some (.nx ρ')):gK fi tg g ρ=some (.nx ρ'):=by unfold gK;rw[e];exact k
theorem mq (e:fi (kh ρ)=some ds)(k:eD tg g ds ρ=some (.nx ρ')):mD fi tg g ρ=some (.nx ρ'):=by unfold mD;rw[e];exact k
theorem fM {f:FE}{j:Nat}(e:f ρ=some (.int j,b))(hj:j<=1000):da f ρ=some (cP 0 j):=by
 unfold da;rw[e];simp only[];rw[if_pos (by omega)];simp
theorem aO (e:f ρ=some (.bl x,b)):bw f ρ=some x:=by unfold bw;rw[e]
theorem am (e:fa ρ=some ds)(k:F ds=x):fA F fa ρ=x:=by unfold fA;rw[e,vJ];exact k
theorem gS {f1 g1:D->D->OB}{fa fb fc:FE}{x y z:D}{b1 b2 b3 b4 p q:Bool}(ea:fa ρ=some (x,b1))(eb:fb ρ=some (y,b2))(ec:fc ρ=some (z,b3))(e1:f1 x y=some (.bl p,b4))(e2:p=true->g1 y z=some (.bl q,false)):cH f1 g1 fa fb fc ρ=some (.bl (p && q),false):=by
 unfold cH;rw[ea,eb,ec];simp only[vJ,e1];cases p
 ·rfl
 ·exact e2 rfl
theorem iW {f1 f2:FE}{p q b1:Bool}(e1:f1 ρ=some (.bl p,b1))(e2:p=true->f2 ρ=some (.bl q,false)):li f1 f2 ρ=some (.bl (p && q),false):=by
 unfold li;rw[e1];cases p
 ·rfl
 ·exact e2 rfl
theorem sX {f1 f2:FE}{p q b1:Bool}(e1:f1 ρ=some (.bl p,b1))(e2:p=false->f2 ρ=some (.bl q,false)):EW f1 f2 ρ=some (.bl (p || q),false):=by
 unfold EW;rw[e1];cases p
 ·exact e2 rfl
 ·rfl
theorem DR {f1:FE}{p b1:Bool}(e1:f1 ρ=some (.bl p,b1)):Al f1 ρ=some (.bl (!p),false):=by
 unfold Al;rw[e1]
theorem aW (e1:f ρ=some (d,b))(e2:fr ρ=some xs):ag f fr ρ=some (d::xs):=by
 unfold ag;rw[e1,vJ,e2,vJ]
theorem ce (e1:fa ρ=some (x,b1))(e2:fb ρ=some (y,b2))(e3:op x y=z):f2 op fa fb ρ=z:=by
 unfold f2;rw[e1,vJ,e2,vJ];exact e3
theorem xw (e1:c1 ρ=some p)(e2:p=true->c2 ρ=some q):lF c1 c2 ρ=some (p && q):=by
 unfold lF;rw[e1];cases p
 ·rfl
 ·exact e2 rfl
theorem bu (e1:c1 ρ=some p)(e2:p=false->c2 ρ=some q):dH c1 c2 ρ=some (p || q):=by
 unfold dH;rw[e1];cases p
 ·exact e2 rfl
 ·rfl
theorem cr (e1:c1 ρ=some p):bY c1 ρ=some (!p):=by
 unfold bY;rw[e1];rfl
end
theorem DS (a c:Nat):decide ([a]<[c])=decide (a<c):=by
 congr 1;rw[List.cons_lt_cons_iff];simp
@[simp] theorem mr (a c:Nat):jJ (.str ⟨#[a]⟩) (.str ⟨#[c]⟩)=some (.bl (decide (a<=c)),false):=by
 unfold jJ;show some (D.bl (!decide ([c]<[a])),false)=_;rw[DS];congr 3;by_cases h:c<a
 ·rw[decide_eq_true h,decide_eq_false (by omega)];rfl
 ·rw[decide_eq_false h,decide_eq_true (by omega)];rfl
theorem io (h:n<=100000):n<sizeLine:=Nat.lt_of_le_of_lt h (by decide)
theorem dC (h:n<=100000):n<=sizeLine:=Nat.le_of_lt (io h)
theorem Bl {α:Type}(l:List α)(g:α->D)(p:α->Bool)(h:α->D)(e:fi ρ=some (l.map g))(hl:l.length<=100000)
  (k:∀x∈l,∃ρ1,tg (g x) (fR nT cap ρ)=some ρ1/\c ρ1=some (p x)/\(p x=true->∃b,fe ρ1=some (h x,b))):bP fi nT cap tg c fe ρ=some (.lst ((l.filter p).map h),true):=by
 have key:∀l':List α,(∀x∈l',x∈l)->ft tg c fe (fR nT cap ρ) (l'.map g)=some ((l'.filter p).map h):=by
  intro l';induction l' with
  |nil=>intro _;simp
  |cons x l' ih=>
   intro hm;obtain⟨ρ1,h1,h2,h3⟩:=k x (hm x mX);have ih:=ih λy hy=>hm y (mZ _ hy);rw[uZ,ux,h1,vJ,h2,vJ];cases hp:p x with
   |false=>simp[hp,ih]
   |true=>
    obtain⟨b,h4⟩:=h3 hp;simp[hp,ih,h4]
 unfold bP;rw[e,vJ,if_pos (dC (by simpa using hl)),key l λ_ h=>h,Option.map_some]
theorem fw {α:Type}(l:List α)(g:α->D)(h:α->D)(e:fi ρ=some (l.map g))(hl:l.length<=100000)
  (k:∀x∈l,∃ρ1,tg (g x) (fR nT cap ρ)=some ρ1/\∃b,fe ρ1=some (h x,b)):bP fi nT cap tg cD fe ρ=some (.lst (l.map h),true):=by
 have:=Bl (c:=cD) (fe:=fe) l g (λ_=>true) h e hl λx hx=>by
  obtain⟨ρ1,h1,h2⟩:=k x hx;exact⟨ρ1,h1,rfl,λ_=>h2⟩
 rw[List.filter_eq_self.mpr λ_ _=>rfl]at this;exact this
@[simp] theorem nv {α:Type}(f:α->Bool)(l:List α):u7 (l.map λx=>.bl (f x))=some (l.map f):=by
 induction l with
 |nil=>rfl
 |cons x l ih=>simp[ih]
theorem m8 (h0:0<=i)(h:i.toNat<z.cps.size)(hz:z.length<=100000):eE (.str z) (.int i)=some (.str ⟨#[z.cps.toList.getD i.toNat 0]⟩,false):=by
 have hh:i.toNat<z.cps.toList.length:=by simpa using h
 simp only[eE];rw[if_pos (dC hz),qR h0 hh];simp[List.getD,h]
theorem Bm (h0:0<=i)(h:i.toNat<ds.length):eE (.lst ds) (.int i)=some (ds.getD i.toNat .non,false):=by
 simp only[eE];rw[qR h0 h];simp[List.getD,h]
theorem zZ (h0:0<=i)(h:i.toNat<ds.length):eE (.tup ds) (.int i)=some (ds.getD i.toNat .non,false):=by
 simp only[eE];rw[qR h0 h];simp[List.getD,h]
theorem xy {xs:List Int}{i:Int}(h0:0<=i)(h:i.toNat<xs.length):eE (.lst (xs.map .int)) (.int i)=some (.int (xs.getD i.toNat 0),false):=by
 rw[Bm h0 (by simpa using h)];simp[List.getD,h]
theorem dc (c:Nat):(⟨#[c]⟩:Str).length=1:=rfl
theorem pE (z:Str):kj z=z.cps.toList.map λc=>.str ⟨#[c]⟩:=rfl
theorem mod_lt {x m:Int}(hm:0<m):0<=x % m/\x % m<m:=⟨Int.emod_nonneg _ (by omega),Int.emod_lt_of_pos _ hm⟩
theorem kC (z4:Str)(zs:List Str):(Txt.join z4 zs).length<=(zs.map (·.length)).sum+zs.length*z4.length:=by
 unfold Txt.join;rw[StrLaws.glued_eq_join];exact StrLaws.join_length_le z4 zs
theorem ip:bS [.lst ds]=some (.int ds.length,false):=rfl
theorem kD (h:0<=v):HT.cW n d (some v)=min v.toNat n:=by
 show(if v<0 then (v+(n:Int)).toNat else min v.toNat n)=_;rw[if_neg (by omega)]
theorem dZ (x y:D)(e1:fa ρ=some (x,false))(e2:fb ρ=some (y,false))(e3:op x y=z):f2 op fa fb ρ=z:=ce e1 e2 e3
theorem vj (e:f ρ=some (.bl x,false)):bw f ρ=some x:=aO e
theorem sY (e1:f ρ=some (d,false))(e2:fr ρ=some xs):ag f fr ρ=some (d::xs):=aW e1 e2
theorem lZ (ds:List D)(e:fa ρ=some ds)(k:F ds=x):fA F fa ρ=x:=am e k
theorem DT (d:D)(e:f ρ=some (d,false))(n:b9 d=true)(k:h (ρ.set i (some (d,false)))=r):ay (aP i f) h ρ=r:=iV e n k
@[simp] noncomputable abbrev SU (aD:List D)(Mc:Int)(t:Env):Env:=some (.tup aD,false)::some (.int Mc,false)::t
@[simp] noncomputable abbrev eR (ns:List Int)(zs:List Str)(ms:Int)(ON:List Str)(R:List D)(a b:OB)(t:Env):Env:=some (.lst (ns.map .int),false)::some (.lst (zs.map .str),false)::some (.int ms,false)::a::some (.lst (ON.map .str),true)::some (.lst R,true)::b::t
end DL
namespace Lw
open PySem DL
noncomputable def j7:D:=(.int 255)
noncomputable def ny:D:=(.int 9999)
noncomputable def eJ:D:=(.str "abcdefgh")
noncomputable def iX:D:=(.int 4)
noncomputable def iY:D:=(.int 9)
noncomputable def iZ:D:=(.int 8)
noncomputable def j8:D:=(.int 20)
noncomputable def eO:D:=(.int 8)
noncomputable def de:D:=(.int 60)
noncomputable def c8:D:=(.str ("-" : PySem.Str))
noncomputable def bi:D:=(.tup [(.str "day"),(.str "since"),(.str "further"),(.str "of")])
noncomputable def aY:List (PySem.Str×D):=[(("root" : Str),(.tup [(.str "office"),(.str "matters"),(.str "further"),(.str "rule")])),(("named" : Str),(.tup [(.str "day"),(.str "office"),(.str "person")])),(("chosen" : Str),(.tup [(.str "day"),(.str "by"),(.str "office"),(.str "person"),(.str "since")])),(("heir" : Str),(.tup [(.str "day"),(.str "by"),(.str "office"),(.str "person")])),(("death" : Str),(.tup [(.str "day"),(.str "person")])),(("lost" : Str),(.tup [(.str "day"),(.str "person")])),(("found" : Str),(.tup [(.str "day"),(.str "person")])),(("leave" : Str),(.tup [(.str "day"),(.str "by"),(.str "person"),(.str "matters"),(.str "stretch"),(.str "further")])),(("paper" : Str),(.tup [(.str "day"),(.str "by"),(.str "matters"),(.str "stretch"),(.str "whom"),(.str "pieces")])),(("like" : Str),(.tup [(.str "day"),(.str "by"),(.str "matters"),(.str "stretch"),(.str "whom"),(.str "of"),(.str "changes")])),(("copy" : Str),(.tup [(.str "day"),(.str "by"),(.str "of")])),(("call" : Str),(.tup [(.str "day"),(.str "by"),(.str "of")]))]
noncomputable def df:D:=(.tup [(.str "by"),(.str "person"),(.str "whom")])
noncomputable def xz:D:=(.tup [(.str "open"),(.str "first"),(.str "last")])
def nA:FS :=
  (aI (li (fA aK (fV 0 (ag (fC (.ty "int")) al))) (li (Al (fA aK (fV 0 (ag (fC (.ty "bool")) al)))) (cH jJ jJ (ah 1) (ah 0) (ah 2)))))
def dJ:=aR nA 3 0
def sZ:FS :=
  (aI (fA dJ (fV 0 (ag (fI 0) (ag (fC ny) al)))))
def ge:=aR sZ 1 0
def kE:FS :=
  (ay (cY (dH (bY (bw (fA aK (fV 0 (ag (fC (.ty "tuple")) al))))) (dH (bw (f2 ua (fA bS (fV 0 al)) (fI 2))) (bY (bw (fA ge (ag (eF 0 0) al)))))) (aI (fC (.bl false))) aJ)
  (aI (EW (f2 Cs (eF 0 1) (fC .non)) (li (fA ge (ag (eF 0 1) al)) (f2 Fb (eF 0 0) (eF 0 1))))))
def ej:=aR kE 1 0
def kF:FS :=
  (aI (fA dJ (fV 0 (ag (fI 1) (ag (fC j7) al)))))
def fD:=aR kF 1 0
def pF:FS :=
  (ay (cY (dH (bY (bw (fA aK (fV 0 (ag (fC (.ty "str")) al))))) (bY (bw (cH jJ jJ (fI 1) (fA bS (fV 0 al)) (fC iZ))))) (aI (fC (.bl false))) aJ)
  (aI (fA ll (ag (bP (cK (ah 0)) 1 [] (eC 0) cD (cH jJ jJ (fS "a") (ah 0) (fS "z"))) al))))
def fN:=aR pF 1 0
def pG:FS :=
  (aI (li (fA aK (fV 0 (ag (fC (.ty "str")) al))) (f2 ub (ah 0) (fC xz))))
def pH:=aR pG 1 0
def nB:FS :=
  (aI (fA fN (fV 0 al)))
def gf:=aR nB 1 0
def lJ:FS :=
  (ay (cY (dH (bY (bw (fA aK (fV 0 (ag (fC (.ty "tuple")) al))))) (bY (bw (cH jJ jJ (fI 1) (fA bS (fV 0 al)) (fC eO))))) (aI (fC (.bl false))) aJ)
  (aI (fA ll (ag (bP (cK (ah 0)) 1 [] (eC 0) cD (fA gf (fV 0 al))) al))))
def gz:=aR lJ 1 0
def lK:FS :=
  (ay (cY (dH (bY (bw (fA aK (fV 0 (ag (fC (.ty "tuple")) al))))) (bw (f2 ua (fA bS (fV 0 al)) (fI 2)))) (aI (fC (.bl false))) aJ)
  (aI (li (fA dJ (ag (eF 0 0) (ag (fI 0) (ag (f2 GO (fC eO) (fI 1)) al)))) (fA gf (ag (eF 0 1) al)))))
def eV:=aR lK 1 0
def kG:FS :=
  (ay (cY (dH (bY (bw (fA aK (fV 0 (ag (fC (.ty "tuple")) al))))) (bY (bw (fA ll (ag (bP (cK (ah 0)) 1 [] (eC 0) cD (fA eV (fV 0 al))) al))))) (aI (fC (.bl false))) aJ)
  (ay (aP 1 (bP (cK (ah 0)) 1 [] (eC 0) cD (eF 0 0)))
  (aI (fA ll (ag (bP (y4 (ah 1) (mN (ah 1) (cE (fI 1)) dA)) 2 [] (xg [0,1]) cD (f2 Fb (ah 0) (ah 1))) al)))))
def iq:=aR kG 1 1
def pI:FS :=
  (ay (cY (dH (bw (f2 eB (ah 0) (fS "day"))) (bw (f2 eB (ah 0) (fS "since")))) (aI (fA ge (fV 1 al))) aJ)
  (ay (cY (dH (bw (f2 eB (ah 0) (fS "office"))) (dH (bw (f2 eB (ah 0) (fS "by"))) (bw (f2 eB (ah 0) (fS "person"))))) (aI (fA fN (fV 1 al))) aJ)
  (ay (cY (bw (f2 eB (ah 0) (fS "whom"))) (aI (EW (f2 Cs (ah 1) (fC .non)) (fA fN (fV 1 al)))) aJ)
  (ay (cY (bw (f2 eB (ah 0) (fS "matters"))) (aI (fA fD (fV 1 al))) aJ)
  (ay (cY (bw (f2 eB (ah 0) (fS "stretch"))) (aI (fA ej (fV 1 al))) aJ)
  (ay (cY (bw (f2 eB (ah 0) (fS "further"))) (aI (fA dJ (fV 1 (ag (fI 0) (ag (fC iY) al))))) aJ)
  (ay (cY (bw (f2 eB (ah 0) (fS "rule"))) (aI (fA pH (fV 1 al))) aJ)
  (ay (cY (bw (f2 eB (ah 0) (fS "of"))) (aI (fA dJ (fV 1 (ag (fI 0) (ag (f2 GO (fC de) (fI 1)) al))))) aJ)
  (ay (cY (bw (f2 eB (ah 0) (fS "pieces"))) (aI (fA gz (fV 1 al))) aJ)
  (aI (fA iq (fV 1 al))))))))))))
def bf:=aR pI 2 0
def pJ:FS :=
  (ay (cY (dH (bY (bw (fA aK (fV 0 (ag (fC (.ty "tuple")) al))))) (dH (bw (f2 eB (fA bS (fV 0 al)) (fI 0))) (bY (bw (fA aK (ag (eF 0 0) (ag (fC (.ty "str")) al))))))) (aI (fC (.bl false))) aJ)
  (ay (cY (dH (bw (f1 (jM aY) (eF 0 0))) (bw (f2 ua (fA bS (fV 0 al)) (f2 aF (fI 1) (fA bS (ag (f1 (fz aY) (eF 0 0)) al)))))) (aI (fC (.bl false))) aJ)
  (aI (fA ll (ag (bP (y4 (f1 (fz aY) (eF 0 0)) (mN (ah 0) (cE (fI 1)) dA)) 2 [] (xg [0,1]) cD (fA bf (fV 0 (fV 1 al)))) al)))))
def lw:=aR pJ 1 0
def pK:FS :=
  (aI (f2 eE (eF 0 1) (fI 0)))
def bQ:=aR pK 1 0
def pL:FS :=
  (aI (f2 eE (eF 0 1) (f2 aF (fI 1) (f2 (oB aY) (fA bQ (fV 0 al)) (ah 1)))))
def dO:=aR pL 2 0
def td:FS :=
  (ay (cY (bw (f2 eB (fA bQ (fV 0 al)) (fS "root"))) (aI (fC .non)) aJ)
  (aI (fA dO (fV 0 (ag (fS "day") al)))))
def kH:=aR td 1 0
def lL:FS :=
  (ay (aP 1 (fA kH (fV 0 al)))
  (ay (cY (bw (f2 Cs (ah 1) (fC .non))) (aI (fC (.bl true))) aJ)
  (ay (cY (lF (bw (f2 eB (fA bQ (fV 0 al)) (fS "chosen"))) (bw (f2 Fb (fA dO (fV 0 (ag (fS "since") al))) (ah 1)))) (aI (fC (.bl false))) aJ)
  (aI (f2 jJ (ah 1) (eF 0 0))))))
def jd:=aR lL 1 1
def tf:FS :=
  (ay (cY (dH (bY (bw (fA aK (fV 0 (ag (fC (.ty "tuple")) al))))) (bw (f2 ua (fA bS (fV 0 al)) (fI 2)))) (aI (fC (.bl false))) aJ)
  (aI (li (fA ge (ag (eF 0 0) al)) (li (fA lw (ag (eF 0 1) al)) (fA jd (fV 0 al))))))
def gU:=aR tf 1 0
def je:FS :=
  (aI (bP (cK (ah 0)) 1 [] (eC 0) (bw (f2 eB (fA bQ (fV 0 al)) (fS "root"))) (fA dO (fV 0 (ag (fS "office") al)))))
def gg:=aR je 1 0
def gV:FS :=
  (aI (li (f2 eB (fA bQ (fV 1 al)) (fS "root")) (f2 ub (fA dO (fV 1 (ag (fS "office") al))) (fA gg (fV 0 al)))))
def eK:=aR gV 2 0
def nD:FS :=
  (aI (Pn (f1 (fz aY) (fA bQ (fV 0 al))) (mN (eF 0 1) (cE (fI 1)) dA)))
def dg:=aR nD 1 0
def lM:FS :=
  (ay (aP 1 (bP (cK (fA dg (fV 0 al))) 2 [] (xg [0,1]) (lF (bw (f2 ub (ah 0) (fC df))) (bw (f2 qD (ah 1) (fC .non)))) (ah 1)))
  (aI (f1 ku (ah 1))))
def dh:=aR lM 1 1
def iE:FS :=
  (si 1 (fA dh (fV 2 al)))
def jf:FS :=
  (ay (aP 1 (fA aX al))
  (ay (mD (cK (ah 0)) (eC 2) iE)
  (aI (f1 kx (ah 1)))))
def gi:=aR jf 1 2
def kI:FS :=
  (ay (cY (dH (bw (f2 Pm (ah 1) (fC de))) (bY (bw (fA gU (ag (f2 eE (ah 0) (ah 1)) al))))) (aI (fC (.bl true))) aJ)
  (aI (EW (fA eK (ag (mN (ah 0) dA (cE (ah 1))) (ag (f2 eE (ah 0) (ah 1)) al))) (f2 Ml (fA gi (ag (mN (ah 0) dA (cE (f2 aF (ah 1) (fI 1)))) al)) (fC j8)))))
def bq:=aR kI 2 0
def jg:FS :=
  (cY (bw (fA bq (fV 1 (fV 2 al)))) gb aJ)
def j9:FS :=
  (ay (cY (bY (bw (fA jp (fV 0 (ag (fA j0 (ag (fC (.ty "list")) (ag (fC (.ty "tuple")) al))) al))))) gb aJ)
  (ay (aP 1 (fA c7 (fV 0 al)))
  (ay (gK (da (fA bS (fV 1 al))) (eC 2) jg)
  (mC 1))))
def dD:=aR j9 1 2
def Fu:FS :=
  (cY (bw (fA bq (fV 1 (fV 2 al)))) (aI (ah 2)) aJ)
def gx:FS :=
  (ay (cY (bY (bw (fA jp (fV 0 (ag (fA j0 (ag (fC (.ty "list")) (ag (fC (.ty "tuple")) al))) al))))) (aI (fC .non)) aJ)
  (ay (aP 1 (fA c7 (fV 0 al)))
  (ay (gK (da (fA bS (fV 1 al))) (eC 2) Fu)
  gb)))
def cL:List D->OB:=iC gx 1 2
def kJ:FS :=
  (ay (cY (dH (bY (bw (cH jJ jJ (fI 1) (fA bS (fV 0 al)) (fC iX)))) (bY (bw (fA ll (ag (bP (cK (ah 0)) 1 [] (eC 0) cD (cH jJ jJ (fS ("0" : PySem.Str)) (ah 0) (fS ("9" : PySem.Str)))) al))))) (aI (fC (.bl false))) aJ)
  (aI (EW (f2 eB (ah 0) (fS ("0" : PySem.Str))) (f2 ua (eF 0 0) (fS ("0" : PySem.Str))))))
def fE:=aR kJ 1 0
def lN:FS :=
  (aI (ot (bw (fA fE (fV 0 al))) (fA K5 (fV 0 al)) (f1 Dm (fI 1))))
def cw:=aR lN 1 0
def tm:FS :=
  (aI (bP (da (f1 xa (ah 0))) 1 [0] (eC 0) (bw (f2 eB (f2 Kb (f2 Ka (ah 1) (ah 0)) (fI 1)) (fI 1))) (ah 0)))
def tq:=aR tm 1 0
def kK:FS :=
  (aI (f2 dn (fS "") (bP (cK (fA tq (fV 0 al))) 1 [] (eC 0) cD (f2 eE (fC eJ) (ah 0)))))
def fF:=aR kK 1 0
def oE:FS :=
  (cY (bw (f2 Pq (ah 3) (ah 0))) (aP 1 (f2 Pp (ah 1) (f2 K0 (fI 1) (ah 2)))) aJ)
def kL:FS :=
  (ay (aP 1 (fI 0))
  (ay (mD (AR (fC eJ)) (xg [2,3]) oE)
  (aI (ot (bw (f2 eB (fA fF (fV 1 al)) (ah 0))) (ah 1) (fI 0)))))
def ir:=aR kL 1 3
def pO:FS :=
  (aI (ot (bw (f2 eB (ah 0) (fC c8))) (fC .non) (fA cw (fV 0 al))))
def lx:=aR pO 1 0
def kM:FS :=
  (ay (aP 1 (bP (jq (fI 0) (fA bS (fV 0 al)) (fI 2)) 1 [0] (eC 0) cD (mN (ah 1) (cE (ah 0)) (cE (f2 aF (ah 0) (fI 2))))))
  (aI (fA c7 (ag (bP (cK (ah 1)) 1 [] (eC 0) cD (fA c7 (ag (f2 aF (fA aX (ag (fA cw (ag (eF 0 0) al)) al)) (mN (ah 0) (cE (fI 1)) dA)) al))) al))))
def iu:=aR kM 1 1
def nE:FS :=
  (ay (cY (bw (f2 ub (ah 0) (fC bi))) (aI (fA cw (ag (eF 1 0) al))) aJ)
  (ay (cY (bw (f2 eB (ah 0) (fS "matters"))) (aI (fA ir (ag (eF 1 0) al))) aJ)
  (ay (cY (bw (f2 eB (ah 0) (fS "stretch"))) (aI (fA j0 (ag (fA cw (ag (eF 1 0) al)) (ag (fA lx (ag (eF 1 1) al)) al)))) aJ)
  (ay (cY (bw (f2 eB (ah 0) (fS "whom"))) (aI (ot (bw (f2 eB (eF 1 0) (fC c8))) (fC .non) (eF 1 0))) aJ)
  (ay (cY (bw (f2 eB (ah 0) (fS "pieces"))) (aI (fA c7 (fV 1 al))) aJ)
  (ay (cY (bw (f2 eB (ah 0) (fS "changes"))) (aI (fA iu (fV 1 al))) aJ)
  (aI (eF 1 0))))))))
def eM:=aR nE 2 0
def jA:FS :=
  (ay (cY (bw (f2 eB (ah 0) (fS "stretch"))) (aI (fI 2)) aJ)
  (ay (cY (dH (bw (f2 eB (ah 0) (fS "pieces"))) (bw (f2 eB (ah 0) (fS "changes")))) (aI (fA bS (fV 1 al))) aJ)
  (aI (fI 1))))
def dE:=aR jA 2 0
def jP:FS :=
  (ay (aP 4 (fA dE (fV 3 (fV 2 al))))
  (ay (cY (bw (f2 Ml (ah 4) (fA bS (fV 2 al)))) (aI (fC .non)) aJ)
  (ay (rH 1 (fA eM (fV 3 (ag (mN (ah 2) dA (cE (ah 4))) al))))
  (aP 2 (mN (ah 2) (cE (ah 4)) dA)))))
def pQ:FS :=
  (ay (aP 1 (mN (ah 0) dA (cE (fI 1))))
  (ay (aP 2 (mN (ah 0) (cE (fI 1)) dA))
  (ay (mD (cK (f1 (fz aY) (eF 0 0))) (eC 3) jP)
  (aI (ot (bw (f2 eB (fA bS (fV 2 al)) (fI 0))) (fA c7 (fV 1 al)) (fC .non))))))
def ly:=aR pQ 1 4
def tt:FS :=
  (ay (aP 1 (f2 eZ (ah 0) (fS " ")))
  (ay (cY (dH (bw (f2 Fb (fA bS (fV 1 al)) (fI 2))) (bw (f1 (jM aY) (eF 1 1)))) (aI (fC .non)) aJ)
  (ay (aP 2 (fA j0 (ag (fA cw (ag (eF 1 0) al)) (ag (fA ly (ag (mN (ah 1) (cE (fI 1)) dA) al)) al))))
  (aI (ot (bw (fA gU (fV 2 al))) (ah 2) (fC .non))))))
def e5:=aR tt 1 2
def Bn:FS :=
  (ay (cY (bY (bw (fA aK (fV 0 (ag (fC (.ty "str")) al))))) gb aJ)
  (ay (aP 1 (ot (bw (f2 ua (ah 0) (fS ""))) (f2 eZ (ah 0) (fS ("\n" : PySem.Str))) (fA aX al)))
  (ay (aP 2 (bP (cK (ah 1)) 1 [] (eC 0) cD (fA e5 (fV 0 al))))
  (ay (cY (bw (f2 Fp (fC .non) (ah 2))) gb aJ)
  (aI (fA dD (fV 2 al)))))))
def jQ:=aR Bn 1 2
def gT:FS :=
  (ay (cY (bY (bw (fA aK (fV 0 (ag (fC (.ty "str")) al))))) (aI (fC .non)) aJ)
  (ay (aP 1 (ot (bw (f2 ua (ah 0) (fS ""))) (f2 eZ (ah 0) (fS ("\n" : PySem.Str))) (fA aX al)))
  (ay (aP 2 (bP (cK (ah 1)) 1 [] (eC 0) cD (fA e5 (fV 0 al))))
  (ay (cY (bw (f2 Fp (fC .non) (ah 2))) (aI (f2 Bf (ah 2) (fC .non))) aJ)
  gb))))
def l5:List D->OB:=iC gT 1 2
def gR:FS :=
  (ay (cY (bY (bw (fA aK (fV 0 (ag (fC (.ty "str")) al))))) gb aJ)
  (ay (aP 1 (ot (bw (f2 ua (ah 0) (fS ""))) (f2 eZ (ah 0) (fS ("\n" : PySem.Str))) (fA aX al)))
  (ay (aP 2 (bP (cK (ah 1)) 1 [] (eC 0) cD (fA e5 (fV 0 al))))
  (ay (cY (bw (f2 Fp (fC .non) (ah 2))) gb aJ)
  (aI (fA cL (fV 2 al)))))))
def vk:List D->OB:=iC gR 1 2
def nF:FS :=
  (ay (cY (bw (f2 eB (ah 0) (fS "matters"))) (aI (fA aX (ag (fA fF (fV 1 al)) al))) aJ)
  (ay (cY (bw (f2 eB (ah 0) (fS "pieces"))) (aI (fA gw (fV 1 al))) aJ)
  (ay (cY (dH (bw (f2 eB (ah 0) (fS "stretch"))) (bw (f2 eB (ah 0) (fS "whom")))) (ay (aP 2 (ot (bw (f2 eB (ah 0) (fS "stretch"))) (ah 1) (fA j0 (fV 1 al))))
  (aI (bP (cK (ah 2)) 1 [] (eC 0) cD (ot (bw (f2 Cs (ah 0) (fC .non))) (fC c8) (fA iT (fV 0 al)))))) aJ)
  (ay (cY (bw (f2 eB (ah 0) (fS "changes"))) (aI (bP (cK (ah 1)) 2 [] (xg [0,1]) cD (K7 (ah 0) (" " : Str) (ah 1)))) aJ)
  (aI (fA aX (ag (fA iT (fV 1 al)) al)))))))
def di:=aR nF 2 1
def jR:FS :=
  (si 1 (fA di (fV 2 (fV 3 al))))
def pR:FS :=
  (ay (aP 1 (fA aX (ag (fA iT (ag (eF 0 0) al)) (ag (fA bQ (fV 0 al)) al))))
  (ay (mD (cK (fA dg (fV 0 al))) (xg [2,3]) jR)
  (aI (f2 dn (fS " ") (ah 1)))))
def js:=aR pR 1 3
def xA:FS :=
  (aI (f2 dn (fS ("\n" : PySem.Str)) (bP (cK (ah 0)) 1 [] (eC 0) cD (fA js (fV 0 al)))))
def jt:=aR xA 1 0
def tu:FS :=
  (ay (cY (bw (f2 Fb (ah 1) (fA bS (fV 0 al)))) (aI (f2 eE (ah 0) (ah 1))) aJ)
  (ay (aP 2 (f2 aF (f2 jy (fI 50021) (ah 1)) (fI 29)))
  (ay (cY (bw (f2 Ml (fA bS (fV 0 al)) (fI 0))) (aP 2 (f2 aF (f2 aF (f2 jy (f2 eE (ah 0) (f2 dr (f2 jy (ah 1) (fI 19)) (fA bS (fV 0 al)))) (fI 48271)) (f2 jy (f2 jy (ah 1) (ah 1)) (fI 5003))) (fI 11))) aJ)
  (aI (f2 dr (f2 Hg (ah 2) (ah 2)) (fI 2147483497))))))
def e6:=aR tu 2 1
def nG:FS :=
  (ay (aP 6 (fA gw (fV 2 al)))
  (ay (A2 6 (ah 3) (f2 eE (ah 1) (f2 dr (f2 aF (f2 iN (ah 0) (fI 64)) (f2 jy (fI 3) (ah 5))) (fI 26))))
  (rH 4 (f2 dn (fS "") (ah 6)))))
def pU:FS :=
  (ay (aP 1 (fS "abcdefghijklmnopqrstuvwxyz"))
  (ay (aP 2 (bP (da (f2 aF (fI 1) (f2 dr (ah 0) (fI 8)))) 1 [1,0] (eC 0) cD (f2 eE (ah 1) (f2 dr (f2 iN (ah 2) (f2 aF (fI 3) (f2 jy (fI 4) (ah 0)))) (fI 26)))))
  (ay (aP 3 (f2 dr (f2 iN (ah 0) (fI 8)) (fA bS (fV 2 al))))
  (ay (aP 4 (fA aX al))
  (ay (gK (da (fI 6)) (eC 5) nG)
  (mC 4))))))
def l7:=aR pU 1 6
def tw:FS :=
  (ay (aP 3 (fA iT (ag (f2 dr (ah 1) (fI 40)) al)))
  (ay (aP 4 (fA iT (ag (f2 aF (f2 dr (ah 1) (fI 40)) (f2 dr (f2 iN (ah 1) (fI 40)) (fI 5))) al)))
  (ay (aP 5 (f2 eE (ah 2) (f2 dr (f2 iN (ah 1) (fI 7)) (fI 4))))
  (ay (aP 6 (f2 eE (ah 2) (f2 dr (f2 iN (ah 1) (fI 11)) (fI 4))))
  (ay (aP 7 (fA aX (ag (f2 aF (f2 aF (fS "root ") (eF 2 4)) (fS (" adh 3 open" : PySem.Str))) (ag (f2 aF (f2 aF (f2 aF (f2 aF (f2 aF (fS "named ") (ah 3)) (fS " ")) (eF 2 4)) (fS " ")) (ah 5)) al))))
  (ay (aP 8 (f2 aF (f2 aF (f2 aF (f2 aF (f2 aF (fS "chosen ") (ah 3)) (fS " ")) (ah 5)) (fS " ")) (eF 2 4)))
  (ay (aP 7 (f2 aF (ah 7) (fA aX (ag (f2 aF (f2 aF (f2 aF (f2 aF (ah 8) (fS " ")) (ah 6)) (fS " ")) (ah 4)) al))))
  (ay (aP 7 (f2 aF (ah 7) (fA aX (ag (f2 aF (f2 aF (f2 aF (f2 aF (f2 aF (f2 aF (f2 aF (fS "heir ") (ah 3)) (fS " ")) (ah 5)) (fS " ")) (eF 2 4)) (fS " ")) (ah 6)) al))))
  (ay (aP 7 (f2 aF (ah 7) (fA aX (ag (f2 aF (f2 aF (f2 aF (fS "death ") (ah 3)) (fS " ")) (ah 5)) al))))
  (ay (aP 7 (f2 aF (ah 7) (fA aX (ag (f2 aF (f2 aF (f2 aF (fS "lost ") (ah 3)) (fS " ")) (ah 5)) (ag (f2 aF (f2 aF (f2 aF (fS "found ") (ah 3)) (fS " ")) (ah 6)) al)))))
  (ay (aP 7 (f2 aF (ah 7) (fA aX (ag (f2 aF (f2 aF (f2 aF (f2 aF (f2 aF (f2 aF (fS "leave ") (ah 3)) (fS " ")) (ah 5)) (fS " ")) (ah 6)) (fS (" ab 3 90 2" : PySem.Str))) al))))
  (ay (aP 7 (f2 aF (ah 7) (fA aX (ag (f2 aF (f2 aF (f2 aF (f2 aF (fS "copy ") (ah 3)) (fS " ")) (ah 5)) (fS (" 5" : PySem.Str))) al))))
  (ay (aP 7 (f2 aF (ah 7) (fA aX (ag (f2 aF (f2 aF (f2 aF (f2 aF (f2 aF (f2 aF (fS "paper ") (ah 3)) (fS " ")) (ah 5)) (fS (" c 0 - " : PySem.Str))) (ah 6)) (fS " of the king")) al))))
  (ay (aP 7 (f2 aF (ah 7) (fA aX (ag (f2 aF (f2 aF (f2 aF (f2 aF (fS "call ") (ah 3)) (fS " ")) (ah 6)) (fS (" 59" : PySem.Str))) al))))
  (ay (aP 7 (f2 aF (ah 7) (fA aX (ag (f2 aF (f2 aF (f2 aF (f2 aF (fS "like ") (ah 3)) (fS " ")) (ah 5)) (fS (" gh 7 8 - 0 0 of 7 the" : PySem.Str))) al))))
  (aI (f2 aF (f2 aF (ah 4) (fS " ")) (f2 eE (ah 7) (f2 dr (ah 0) (fI 12))))))))))))))))))))
def nH:=aR tw 3 6
def xB:FS :=
  (ay (aP 0 (fA aX (ag (fS ("1" : PySem.Str)) (ag (fS "") (ag (fS " ") (ag (fS ("1 " : PySem.Str)) (ag (fS ("x death 1 a" : PySem.Str)) (ag (fS ("01 death 1 a" : PySem.Str)) (ag (fS ("-1 death 0 a" : PySem.Str)) (ag (fS ("10000 death 1 a" : PySem.Str)) al))))))))))
  (ay (aP 0 (f2 aF (ah 0) (fA aX (ag (fS ("1 death 1" : PySem.Str)) (ag (fS ("1 death a" : PySem.Str)) (ag (fS ("1 death 1 a b" : PySem.Str)) (ag (fS ("1 death 2 a" : PySem.Str)) (ag (fS ("1 death 1 A" : PySem.Str)) al))))))))
  (ay (aP 0 (f2 aF (ah 0) (fA aX (ag (fS ("1 death 1 abcdefghi" : PySem.Str)) (ag (fS ("1 death 1 a1" : PySem.Str)) (ag (fS ("1 death 01 a" : PySem.Str)) (ag (fS ("1  death 1 a" : PySem.Str)) (ag (fS ("1 death 1 a " : PySem.Str)) al))))))))
  (ay (aP 0 (f2 aF (ah 0) (fA aX (ag (fS (" 1 death 1 a" : PySem.Str)) (ag (fS ("1 Death 1 a" : PySem.Str)) (ag (fS ("1 dead 1 a" : PySem.Str)) (ag (fS ("death 1 a" : PySem.Str)) (ag (fS ("1 root x 7 0 open" : PySem.Str)) al))))))))
  (ay (aP 0 (f2 aF (ah 0) (fA aX (ag (fS ("1 root x ba 0 open" : PySem.Str)) (ag (fS ("1 root x aa 0 open" : PySem.Str)) (ag (fS ("1 root x i 0 open" : PySem.Str)) (ag (fS ("1 root x a 10 open" : PySem.Str)) al)))))))
  (ay (aP 0 (f2 aF (ah 0) (fA aX (ag (fS ("1 root x a 0 both" : PySem.Str)) (ag (fS ("1 root x a 0" : PySem.Str)) (ag (fS ("1 named 1 x" : PySem.Str)) (ag (fS ("1 chosen 1 a x b 0" : PySem.Str)) al)))))))
  (ay (aP 0 (f2 aF (ah 0) (fA aX (ag (fS ("1 chosen 1 a x b" : PySem.Str)) (ag (fS ("1 heir 1 a x" : PySem.Str)) (ag (fS ("1 copy 1 a 60" : PySem.Str)) (ag (fS ("1 copy 1 a" : PySem.Str)) (ag (fS ("1 call 1 a -1" : PySem.Str)) al))))))))
  (ay (aP 0 (f2 aF (ah 0) (fA aX (ag (fS ("1 call 1 a 0 0" : PySem.Str)) (ag (fS ("1 leave 1 a b a 3 3 0" : PySem.Str)) (ag (fS ("1 leave 1 a b a 4 3 0" : PySem.Str)) (ag (fS ("1 leave 1 a b a 3 - 10" : PySem.Str)) al)))))))
  (ay (aP 0 (f2 aF (ah 0) (fA aX (ag (fS ("1 leave 1 a b a - 3 0" : PySem.Str)) (ag (fS ("1 leave 1 a b a 3 -" : PySem.Str)) (ag (fS ("1 leave 1 a b - 3 - 0" : PySem.Str)) (ag (fS ("1 find 1 a" : PySem.Str)) al)))))))
  (ay (aP 0 (f2 aF (ah 0) (fA aX (ag (fS ("1 paper 1 a a 0 - -" : PySem.Str)) (ag (fS ("1 paper 1 a a 0 - - a a a a a a a a a" : PySem.Str)) (ag (fS ("1 paper 1 a a 0 - b -" : PySem.Str)) al))))))
  (ay (aP 0 (f2 aF (ah 0) (fA aX (ag (fS ("1 paper 1 a a 0 - b a  a" : PySem.Str)) (ag (fS ("1 paper 1 a a 0 - B a" : PySem.Str)) (ag (fS ("1 like 1 a a 0 - - 0 0" : PySem.Str)) al))))))
  (ay (aP 0 (f2 aF (ah 0) (fA aX (ag (fS ("1 like 1 a a 0 - - 0 1 a 0 b" : PySem.Str)) (ag (fS ("1 like 1 a a 0 - - 0 1 a 1 b" : PySem.Str)) (ag (fS ("1 like 1 a a 0 - - 0 8 a" : PySem.Str)) al))))))
  (ay (aP 0 (f2 aF (ah 0) (fA aX (ag (fS ("+1 death 1 a" : PySem.Str)) (ag (fS ("1_0 death 1 a" : PySem.Str)) (ag (fS ("1 paper 1 a a 0 +9 - b" : PySem.Str)) (ag (fS ("1 copy 1 a +5" : PySem.Str)) al)))))))
  (aI (f2 aF (ah 0) (fA aX (ag (fS ("1 like 1 a a 0 - -" : PySem.Str)) (ag (fS ("1 like 1 a a 0 - - 60" : PySem.Str)) (ag (fS ("1 like 1 a a 0 - - 0 a 1" : PySem.Str)) al)))))))))))))))))))
def kN:=aR xB 0 1
def aU:List D->OB
 |[th]=>match l5 [th] with
  |some r=>some (.tup [.str "text",r.1],false)
  |none=>(vk [th]).map λr=>(.tup [.str "row",r.1],false)
 |_=>none
def Bo:FS :=
  (ay (cY (dH (bw (f2 ua (eF 0 0) (ah 1))) (bw (fA aK (ag (eF 0 1) (ag (fC (.ty "bool")) al))))) (aI (fC (.bl false))) aJ)
  (ay (cY (bw (f2 Cs (ah 2) (fC .non))) (aI (f2 Cs (eF 0 1) (fC .non))) aJ)
  (aI (li (fA aK (ag (eF 0 1) (ag (fC (.ty "int")) al))) (f2 eB (eF 0 1) (ah 2))))))
def iz:=aR Bo 3 0
def vm:FS :=
  (ay (aP 4 (f2 dr (fA e6 (fV 0 (ag (f2 aF (fI 3) (ah 3)) al))) (f2 JZ (fI 10) (fI 12))))
  (rH 2 (fA nH (ag (f2 aF (fI 1) (f2 dr (f2 iN (ah 4) (fI 200)) (fI 11))) (fV 4 (fV 1 al))))))
def nI:FS :=
  (cY (bY (bw (fA iz (ag (fA aU (fV 14 al)) (ag (fS "text") (ag (fC .non) al)))))) (aI (fC (.bl false))) aJ)
def Fv:FS :=
  (ay (aP 1 (fA l7 (ag (fA e6 (fV 0 (ag (fI 0) al))) al)))
  (ay (aP 2 (fA aX (ag (f2 aF (f2 aF (fS ("0 root " : PySem.Str)) (eF 1 4)) (fS (" abc 2 last" : PySem.Str))) al)))
  (ay (gK (da (f2 dr (fA e6 (fV 0 (ag (fI 1) al))) (fI 14))) (eC 3) vm)
  (ay (aP 5 (f2 dn (fS ("\n" : PySem.Str)) (ah 2)))
  (ay (cY (bw (f2 ua (fA jt (ag (fA jQ (fV 5 al)) al)) (ah 5))) (aI (fC (.bl false))) aJ)
  (ay (aP 4 (fA e6 (fV 0 (ag (fI 2) al))))
  (ay (aP 6 (fA kN al))
  (ay (aP 7 (f2 dr (f2 iN (ah 4) (fA bS (fV 6 al))) (f2 aF (fA bS (fV 2 al)) (fI 1))))
  (ay (aP 8 (f2 aF (f2 aF (mN (ah 2) dA (cE (ah 7))) (fA aX (ag (f2 eE (ah 6) (f2 dr (ah 4) (fA bS (fV 6 al)))) al))) (mN (ah 2) (cE (ah 7)) dA)))
  (ay (cY (bY (bw (fA iz (ag (fA aU (ag (f2 dn (fS ("\n" : PySem.Str)) (ah 8)) al)) (ag (fS "text") (fV 7 al)))))) (aI (fC (.bl false))) aJ)
  (ay (aP 9 (f2 aF (ah 2) (fA aX (ag (f2 aF (f2 aF (fS ("7 root " : PySem.Str)) (eF 1 4)) (fS (" a 0 open" : PySem.Str))) al))))
  (ay (cY (bY (bw (fA iz (ag (fA aU (ag (f2 dn (fS ("\n" : PySem.Str)) (ah 9)) al)) (ag (fS "row") (ag (fA bS (fV 2 al)) al)))))) (aI (fC (.bl false))) aJ)
  (ay (aP 10 (f2 aF (ah 9) (fA aX (ag (f2 eE (ah 6) (f2 dr (f2 iN (fA e6 (fV 0 (ag (fI 2) al))) (fI 64)) (fA bS (fV 6 al)))) al))))
  (ay (cY (bY (bw (fA iz (ag (fA aU (ag (f2 dn (fS ("\n" : PySem.Str)) (ah 10)) al)) (ag (fS "text") (ag (f2 aF (fA bS (fV 2 al)) (fI 1)) al)))))) (aI (fC (.bl false))) aJ)
  (ay (aP 11 (f2 aF (ah 2) (bP (da (fI 21)) 1 [] (eC 0) cD (f2 aF (f2 aF (fS ("9 lost 1 z" : PySem.Str)) (f2 eE (fS "abcdefghijklmnopqrstuvwxyz") (ah 0))) (fS "zzzzzz")))))
  (ay (aP 12 (f2 aF (ah 2) (D0 (fA aX (ag (f2 aF (fS ("9 found 9 " : PySem.Str)) (eF 1 0)) al)) (fI 61))))
  (ay (cY (bY (bw (fA iz (ag (fA aU (ag (f2 dn (fS ("\n" : PySem.Str)) (ah 12)) al)) (ag (fS "row") (ag (fI 60) al)))))) (aI (fC (.bl false))) aJ)
  (ay (aP 13 (fA aU (ag (f2 dn (fS ("\n" : PySem.Str)) (ah 11)) al)))
  (ay (cY (dH (bw (f2 ua (eF 13 0) (fS "row"))) (bY (bw (cH jJ jJ (f2 aF (fA bS (fV 2 al)) (fI 16)) (eF 13 1) (f2 aF (fA bS (fV 2 al)) (fI 20)))))) (aI (fC (.bl false))) aJ)
  (ay (mD (cK (fA aX (ag (fC .non) (ag (fI 3) (ag (fA aX (ag (fS ("0 root a a 0 open" : PySem.Str)) al)) (ag (fA j0 (ag (fS ("1 death 1 a" : PySem.Str)) al)) al)))))) (eC 14) nI)
  (aI (f2 eB (fA jt (ag (fA jQ (fV 5 al)) al)) (ah 5)))))))))))))))))))))))
def F_law:=aR Fv 1 14
end Lw
namespace Lw
open PySem DL L2
theorem t6 (d:D)(r:List D):qp (d::r) 0=some d:=by have:=nk (xs:=d::r) (j:=0) (by simp);simpa using this
theorem xC (d e:D)(r:List D):qp (d::e::r) 1=some e:=by have:=nk (xs:=d::e::r) (j:=1) (by simp);simpa using this
theorem bM (zs:List Str):bR (zs.map D.str)=true:=by
 induction zs with
 |nil=>rfl
 |cons a l ih=>simp[ih]
theorem dL {ds:List D}(h:∀d∈ds,b9 d=true):bR ds=true:=by
 induction ds with
 |nil=>rfl
 |cons d r ih=>simp[h d (by simp),ih λe he=>h e (by simp[he])]
theorem yT (d:D)(r:List D):iP (d::r) (some 1) none=r:=by
 unfold iP;rw[kD (v:=1) (by decide)];have:HT.cW (d::r).length (d::r).length none=(d::r).length:=rfl;rw[this];have:min (1:Int).toNat (d::r).length=1:=by simp
 rw[this];simp
theorem jh (aD:List D)(n:Nat):iP aD none (some (n:Int))=aD.take n:=by
 unfold iP;rw[HT.rB,HT.wE];simp
theorem pV {op:D->OB}{fa:FE}{ρ:DL.Env}{x:D}{b:Bool}{z:OB}(e1:fa ρ=some (x,b))(e2:op x=z):f1 op fa ρ=z:=by unfold f1;rw[e1];exact e2
theorem t8 (parts:List Str)(rest:List D):fZ (parts.map .str) rest=(parts.zip rest).map λx=>.tup [.str x.1,x.2]:=by
 induction parts generalizing rest with
 |nil=>rfl
 |cons a l ih=>
  cases rest with
  |nil=>rfl
  |cons d r=>have:=ih r;unfold fZ at this ⊢;simp[this]
theorem kO {α:Type}(l:List α):ll [.lst (l.map λ_=>.bl true)]=some (.bl true,false):=by
 have:=nv (λ_:α=>true) l;simp only[ll,this,Option.map_some];congr 2;simp
noncomputable def g0 (c:Nat):Bool:=decide (97<=c) && decide (c<=122)
theorem Hx:("a" : Str)=⟨#[97]⟩:=by decide +kernel
theorem Hy:("z" : Str)=⟨#[122]⟩:=by decide +kernel
theorem t9 (c:Nat)(ρ:DL.Env)(h:ρ[0]? = some (some (.str ⟨#[c]⟩,false))):cH jJ jJ (fC (.str "a")) (ah 0) (fC (.str "z")) ρ=some (.bl (g0 c),false):=by
 refine gS (x:=.str ⟨#[97]⟩) (y:=.str ⟨#[c]⟩) (z:=.str ⟨#[122]⟩) (b1:=false) (b2:=false) (b3:=false) (b4:=false) ?_ ?_ ?_ (mr _ _) λ_=>mr _ _
 ·rw[Hx];rfl
 ·simp[h]
 ·rw[Hy];rfl
noncomputable def cQ (z:Str):Bool:=(decide (1<=z.length) && decide (z.length<=8)) && z.cps.toList.all g0
theorem gW (z:Str):z.cps.toList.length=z.length:=by simp[Str.length]
theorem kP {z:Str}(h:cQ z=true):fN [.str z]=some (.bl true,false):=by
 unfold cQ at h;rw[vD,vD]at h;obtain⟨⟨h1,h8⟩,ha⟩:=h;have h1:=of_decide_eq_true h1;have h8:=of_decide_eq_true h8;have hl:z.length<=sizeLine:=dC (by omega);refine au rfl (ar (bu (p:=false) (q:=false) (by simp) λ_=>cr (p:=true) (aO (b:=false) ((gS (x:=.int 1) (y:=.int z.length) (z:=.int 8) (b1:=false) (b2:=false) (b3:=false) (b4:=false) (p:=true) (q:=true) rfl (by simp[hl]) rfl (by simp;omega) λ_=>by simp;omega).trans rfl))) (aE (am (ds:=[.lst (z.cps.toList.map λc=>.bl (g0 c))]) ?_ ?_)))
 ·have:=fw (fi:=cK (ah 0)) (nT:=1) (cap:=[]) (tg:=eC 0) (fe:=cH jJ jJ (fC (.str "a")) (ah 0) (fC (.str "z"))) (ρ:=[some (.str z,false)]) z.cps.toList (λc=>.str ⟨#[c]⟩) (λc=>.bl (g0 c)) (by simp[pE]) (by rw[gW];omega) λc _=>
   ⟨_,rfl,false,t9 c _ (by simp[fR])⟩
  exact aW (b:=true) this rfl
 ·simp only[ll,nv,Option.map_some,List.all_map];congr 2;exact congrArg D.bl ha
theorem gX {d lo hi:Int}(h1:lo<=d)(h2:d<=hi):dJ [.int d,.int lo,.int hi]=some (.bl true,false):=by
 refine au rfl (aE ((iW (p:=true) (q:=true) (b1:=false) (by simp) λ_=>(iW (p:=true) (q:=true) (b1:=false) (DR (p:=false) (b1:=false) (by simp)) λ_=>(gS (x:=.int lo) (y:=.int d) (z:=.int hi) (b1:=false) (b2:=false) (b3:=false) (b4:=false) (p:=true) (q:=true) rfl rfl rfl (by simp;omega) λ_=>by simp;omega).trans rfl).trans rfl).trans rfl))
theorem ju {d:Int}(h1:0<=d)(h2:d<=9999):ge [.int d]=some (.bl true,false):=au rfl (aE (am (ds:=[.int d,.int 0,.int 9999]) rfl (gX h1 h2)))
theorem tE {d:Int}(h1:1<=d)(h2:d<=255):fD [.int d]=some (.bl true,false):=au rfl (aE (am (ds:=[.int d,.int 1,.int 255]) rfl (gX h1 h2)))
theorem tG {d:Int}(h1:0<=d)(h2:d<=9999):ej [.tup [.int d,.non]]=some (.bl true,false):=by
 refine au rfl (ar (bu (p:=false) (q:=false) (by simp) λ_=>bu (p:=false) (q:=false) (by simp) λ_=>cr (p:=true) (aO (b:=false) (am (ds:=[.int d]) (by simp[t6]) (ju h1 h2)))) (aE ((sX (p:=true) (q:=true) (b1:=false) (by simp[xC,lj]) (by simp)).trans rfl)))
theorem pX {z:Str}(h:cQ z=true):gf [.str z]=some (.bl true,false):=au rfl (aE (am (ds:=[.str z]) rfl (kP h)))
theorem vn {ps:List Str}(h1:1<=ps.length)(h8:ps.length<=8)(h:∀p∈ps,cQ p=true):gz [.tup (ps.map .str)]=some (.bl true,false):=by
 refine au rfl (ar (bu (p:=false) (q:=false) (by simp) λ_=>cr (p:=true) (aO (b:=false) ((gS (x:=.int 1) (y:=.int ps.length) (z:=.int 8) (b1:=false) (b2:=false) (b3:=false) (b4:=false) (p:=true) (q:=true) rfl (by simp) rfl (by simp;omega) λ_=>by simp;omega).trans rfl))) (aE (am (ds:=[.lst (ps.map λ_=>.bl true)]) ?_ (kO ps))));have:=fw (fi:=cK (ah 0)) (nT:=1) (cap:=[]) (tg:=eC 0) (fe:=fA gf (ag (ah 0) al)) (ρ:=[some (.tup (ps.map .str),false)]) ps (λp=>.str p) (λ_=>.bl true) (by simp) (by omega) λp hp=>
  ⟨_,rfl,false,am (ds:=[.str p]) (by simp[fR]) (pX (h p hp))⟩
 exact aW (b:=true) this rfl
theorem cq {p q:Str}{v:D}{b:Bool}(h:decide (p=q)=b):bw (f2 eB (ah 0) (fC (.str q))) [some (.str p,false),some (v,false)]=some b:=aO (b:=false) (ce (x:=.str p) (y:=.str q) (b1:=false) (b2:=false) rfl rfl (by simp[←h]))
theorem c2 {p q r:Str}{v:D}(h:(decide (p=q) || decide (p=r))=false):dH (bw (f2 eB (ah 0) (fC (.str q)))) (bw (f2 eB (ah 0) (fC (.str r)))) [some (.str p,false),some (v,false)]=some false:=(bu (cq rfl) λ_=>cq rfl).trans (by rw[h])
theorem c3 {p q r t:Str}{v:D}(h:(decide (p=q) || (decide (p=r) || decide (p=t)))=false):dH (bw (f2 eB (ah 0) (fC (.str q)))) (dH (bw (f2 eB (ah 0) (fC (.str r)))) (bw (f2 eB (ah 0) (fC (.str t))))) [some (.str p,false),some (v,false)]=some false:=(bu (cq rfl) λ_=>bu (cq rfl) λ_=>cq rfl).trans (by rw[h])
theorem QD {p q r:Str}{v:D}(h:(decide (p=q) || decide (p=r))=true):dH (bw (f2 eB (ah 0) (fC (.str q)))) (bw (f2 eB (ah 0) (fC (.str r)))) [some (.str p,false),some (v,false)]=some true:=(bu (cq rfl) λ_=>cq rfl).trans (by rw[h])
theorem QE {p q r t:Str}{v:D}(h:(decide (p=q) || (decide (p=r) || decide (p=t)))=true):dH (bw (f2 eB (ah 0) (fC (.str q)))) (dH (bw (f2 eB (ah 0) (fC (.str r)))) (bw (f2 eB (ah 0) (fC (.str t))))) [some (.str p,false),some (v,false)]=some true:=(bu (cq rfl) λ_=>bu (cq rfl) λ_=>cq rfl).trans (by rw[h])
theorem xD {p:Str}{v:D}(h0:(decide (p=("day" : Str)) || decide (p=("since" : Str)))=false)(hp:(decide (p=("office" : Str)) || (decide (p=("by" : Str)) || decide (p=("person" : Str))))=true)(h:fN [v]=some (.bl true,false)):bf [.str p,v]=some (.bl true,false):=au rfl (ar (c2 h0) (bL (QE hp) (aE (am (ds:=[v]) rfl h))))
theorem yU {v:D}(h:gz [v]=some (.bl true,false)):bf [.str "pieces",v]=some (.bl true,false):=au rfl (ar (c2 (by decide +kernel)) (ar (c3 (by decide +kernel)) (ar (cq (by decide +kernel)) (ar (cq (by decide +kernel)) (ar (cq (by decide +kernel)) (ar (cq (by decide +kernel)) (ar (cq (by decide +kernel)) (ar (cq (by decide +kernel)) (bL (cq (by decide +kernel)) (aE (am (ds:=[v]) rfl h)))))))))))
theorem Bp {p:Str}{v:D}(hp:(decide (p=("day" : Str)) || decide (p=("since" : Str)))=true)(h:ge [v]=some (.bl true,false)):bf [.str p,v]=some (.bl true,false):=au rfl (bL (QD hp) (aE (am (ds:=[v]) rfl h)))
theorem DU:bf [.str "whom",.non]=some (.bl true,false):=bT (by decide +kernel)
theorem vo {v:D}(h:fD [v]=some (.bl true,false)):bf [.str "matters",v]=some (.bl true,false):=au rfl (ar (c2 (by decide +kernel)) (ar (c3 (by decide +kernel)) (ar (cq (by decide +kernel)) (bL (cq (by decide +kernel)) (aE (am (ds:=[v]) rfl h))))))
theorem vp {v:D}(h:ej [v]=some (.bl true,false)):bf [.str "stretch",v]=some (.bl true,false):=au rfl (ar (c2 (by decide +kernel)) (ar (c3 (by decide +kernel)) (ar (cq (by decide +kernel)) (ar (cq (by decide +kernel)) (bL (cq (by decide +kernel)) (aE (am (ds:=[v]) rfl h)))))))
theorem vq {d:Int}(h1:0<=d)(h2:d<=9):bf [.str "further",.int d]=some (.bl true,false):=au rfl (ar (c2 (by decide +kernel)) (ar (c3 (by decide +kernel)) (ar (cq (by decide +kernel)) (ar (cq (by decide +kernel)) (ar (cq (by decide +kernel)) (bL (cq (by decide +kernel)) (aE (am (ds:=[.int d,.int 0,.int 9]) rfl (gX h1 h2)))))))))
theorem KO {d:Int}(h1:0<=d)(h2:d<=59):bf [.str "of",.int d]=some (.bl true,false):=au rfl (ar (c2 (by decide +kernel)) (ar (c3 (by decide +kernel)) (ar (cq (by decide +kernel)) (ar (cq (by decide +kernel)) (ar (cq (by decide +kernel)) (ar (cq (by decide +kernel)) (ar (cq (by decide +kernel)) (bL (cq (by decide +kernel)) (aE (am (ds:=[.int d,.int 0,.int 59]) (by simp[de]) (gX h1 h2)))))))))))
noncomputable def row (h:Int)(kind:Str)(rest:List D):D:=.tup [.int h,.tup (.str kind::rest)]
noncomputable def gF (z:Str):Bool:=Fd (.str z) [.str "by",.str "person",.str "whom"]
noncomputable def there:D->Bool
 |.non=>false
 |_=>true
@[simp] theorem N6:there .non=false:=rfl
@[simp] theorem N7 (z:Str):there (.str z)=true:=rfl
@[simp] theorem NA (z:Int):there (.int z)=true:=rfl
@[simp] theorem NB (z:List D):there (.tup z)=true:=rfl
theorem tH (d:D)(h:u6 d=false):qD d .non=some (.bl (there d),false):=by
 cases d<;>simp[lj,there]at h ⊢
noncomputable def pick (l:List (Str×D)):List D:=(l.filter λx=>gF x.1 && there x.2).map (·.2)
structure DeedG (h:Int)(kind:Str)(rest:List D)(ss:List Str):Prop where
 parts:∃(parts:List Str),fz aY (.str kind)=some (.tup (parts.map .str),false)/\parts.length=rest.length/\(∀x∈parts.zip rest,bf [.str x.1,x.2]=some (.bl true,false))/\pick (parts.zip rest)=ss.map .str
 ss2:ss.length<=2
 len:rest.length<=10
 flat:∀d∈rest,b9 d=true/\u6 d=false
 day:(kind=("root" : Str)/\∃o r,rest=.str o::r)∨(kind≠("root" : Str)/\(∃(day:Int)(r:List D),rest=.int day::r/\day<=h/\0<=day/\(kind=("chosen" : Str)->∃a b c s,r=[a,b,c,.int s]/\day<=s))/\oB aY (.str kind) (.str "day")=some (.int 0,false))
def ma (r:D)(ss:List Str):Prop:=∃h kind rest,r=row h kind rest/\0<=h/\h<=9999/\DeedG h kind rest ss
theorem i6 (h:Int)(kind:Str)(rest:List D):bQ [row h kind rest]=some (.str kind,false):=au rfl (aE (by simp[row,xC,t6]))
theorem qS {h:Int}{k:Str}{rest:List D}{part:Str}{i:Nat}{d:D}(hi:oB aY (.str k) (.str part)=some (.int i,false))(hd:rest[i]? = some d):dO [row h k rest,.str part]=some (d,false):=by
 refine au rfl (aE ?_);refine ce (x:=.tup (.str k::rest)) (y:=.int (1+i)) (b1:=false) (b2:=false) (by simp[row,xC]) (ce (x:=.int 1) (y:=.int i) (b1:=false) (b2:=false) rfl (ce (x:=.str k) (y:=.str part) (b1:=false) (b2:=false) (am (ds:=[row h k rest]) rfl (i6 _ _ _)) rfl hi) (by simp)) ?_;have gs:i<rest.length:=(vV hd).1;have:qp (.str k::rest) (1+(i:Int))=some d:=by
  have:=nk (xs:=(.str k:D)::rest) (j:=i+1) (by simp;omega);rw[show(1+(i:Int))=((i+1:Nat):Int) by omega,this];simp only[List.getElem_cons_succ];rw[vU gs]at hd;exact hd
 simp[this]
theorem Fw (k q:Str):eB (.str k) (.str q)=some (.bl (decide (k=q)),false):=by simp
noncomputable def Bq:D->D
 |.tup [_,.tup (.str _::.int d::_)]=>.int d
 |_=>.non
theorem DV {h:Int}{kind:Str}{rest:List D}(g:DeedG h kind rest ss):kH [row h kind rest]=some (Bq (row h kind rest),false):=by
 rcases g.day with⟨e,o,r,rfl⟩|⟨e,⟨day,r,rfl,_⟩,hi⟩
 ·exact au rfl (bL (aO (b:=false) (ce (x:=.str kind) (y:=.str "root") (b1:=false) (b2:=false) (am (ds:=[row h kind (.str o::r)]) rfl (i6 _ _ _)) rfl (by rw[Fw,decide_eq_true e]))) (aE rfl))
 ·exact au rfl (ar (aO (b:=false) (ce (x:=.str kind) (y:=.str "root") (b1:=false) (b2:=false) (am (ds:=[row h kind (.int day::r)]) rfl (i6 _ _ _)) rfl (by rw[Fw,decide_eq_false e]))) (aE (am (ds:=[row h kind (.int day::r),.str "day"]) rfl (qS (i:=0) hi rfl))))
theorem Br {h:Int}{kind:Str}{rest:List D}(g:DeedG h kind rest ss):lw [.tup (.str kind::rest)]=some (.bl true,false):=by
 obtain⟨parts,hp,hl,ha,_⟩:=g.parts;have OO:(aY.lookup kind).isSome=true:=by
  simp only[fz]at hp;obtain⟨d,h1,_⟩:=oY hp;rw[h1];rfl
 have hsz:=g.len;have e0:f2 eE (ah 0) (fC (.int 0)) [some (.tup (.str kind::rest),false)]=some (.str kind,false):=by simp[t6]
 have eg:f1 (fz aY) (f2 eE (ah 0) (fC (.int 0))) [some (.tup (.str kind::rest),false)]=some (.tup (parts.map .str),false):=pV (x:=.str kind) (b:=false) e0 hp;refine au rfl (ar (bu (p:=false) (q:=false) (by simp) λ_=>bu (p:=false) (q:=false) (aO (b:=false) (by simp;omega)) λ_=>cr (p:=true) (aO (b:=false) (am (ds:=[.str kind,.ty "str"]) (aW e0 rfl) (by simp)))) (ar (bu (p:=false) (q:=false) (aO (b:=false) (pV (x:=.str kind) (b:=false) e0 ?_)) λ_=>aO (b:=false) (ce (x:=.int ((rest.length+1:Nat):Int)) (y:=.int (1+(parts.length:Int))) (b1:=false) (b2:=false) (by simp) (ce (x:=.int 1) (y:=.int parts.length) (b1:=false) (b2:=false) rfl (am (ds:=[.tup (parts.map .str)]) (aW eg rfl) (by simp)) (by simp)) ?_)) (aE (am (ds:=[.lst ((parts.zip rest).map λ_=>.bl true)]) ?_ (kO _)))))
 ·simp only[jM,OO];rfl
 ·simp;omega
 ·have:=fw (fi:=y4 (f1 (fz aY) (f2 eE (ah 0) (fC (.int 0)))) (mN (ah 0) (cE (fC (.int 1))) dA)) (nT:=2) (cap:=[]) (tg:=xg [0,1]) (fe:=fA bf (ag (ah 0) (ag (ah 1) al))) (ρ:=[some (.tup (.str kind::rest),false)]) (parts.zip rest) (λx=>.tup [.str x.1,x.2]) (λ_=>.bl true)
   (by
    show(f1 (fz aY) _ _).bind _=_;rw[eg];simp[yT,t8]) (by rw[List.length_zip];omega) λx hx=>by
    have Qy:=g.flat x.2 (List.of_mem_zip hx).2;exact⟨_,rfl,false,am (ds:=[.str x.1,x.2]) (by simp[fR]) (ha x hx)⟩
  exact aW (b:=true) this rfl
theorem yV (r:D):b9 (Bq r)=true:=by
 unfold Bq;split<;>rfl
theorem vt {h:Int}{kind:Str}{rest:List D}(g:DeedG h kind rest ss):jd [row h kind rest]=some (.bl true,false):=by
 have hd:=DV g;have Md:∀ {hh:FS}{r:Option Res},hh [some (row h kind rest,false),some (Bq (row h kind rest),false)]=r->ay (aP 1 (fA kH (ag (ah 0) al))) hh [some (row h kind rest,false),none]=r:=λe=>iV (d:=Bq (row h kind rest)) (b:=false) (am (ds:=[row h kind rest]) rfl hd) (yV _) e;rcases g.day with⟨e,o,r,rfl⟩|⟨e,⟨day,r,rfl,O4,Tn,xW⟩,hi⟩
 ·exact au rfl (Md (bL (aO (b:=false) (ce (x:=.non) (y:=.non) (b1:=false) (b2:=false) rfl rfl (by simp[lj]))) (aE rfl)))
 ·refine au rfl (Md (ar (aO (b:=false) (ce (x:=.int day) (y:=.non) (b1:=false) (b2:=false) rfl rfl (by simp[lj]))) (ar ((xw (p:=decide (kind=("chosen" : Str))) (q:=false) (aO (b:=false) (ce (x:=.str kind) (y:=.str "chosen") (b1:=false) (b2:=false) (am (ds:=[row h kind (.int day::r)]) rfl (i6 _ _ _)) rfl (Fw _ _))) λhc=>?_).trans (by rw[Bool.and_false])) (aE ?_))))
  ·have hc:=of_decide_eq_true hc;subst hc;obtain⟨a,b,c,s,rfl,hs⟩:=xW rfl;refine aO (b:=false) (ce (x:=.int s) (y:=.int day) (b1:=false) (b2:=false) (am (ds:=[row h ("chosen" : Str) [.int day,a,b,c,.int s],.str "since"]) rfl (qS (i:=4) (bT (by decide +kernel)) rfl)) rfl ?_);simp;omega
  ·refine ce (x:=.int day) (y:=.int h) (b1:=false) (b2:=false) rfl (by simp[row,t6]) ?_;simp;omega
theorem xE {r:D}(g:ma r ss):gU [r]=some (.bl true,false):=by
 obtain⟨h,kind,rest,rfl,h0,h1,g⟩:=g;refine au rfl (ar (bu (p:=false) (q:=false) (by simp[row]) λ_=>by simp[row]) (aE ((iW (p:=true) (q:=true) (b1:=false) (am (ds:=[.int h]) (by simp[row,t6]) (ju h0 h1)) λ_=>(iW (p:=true) (q:=true) (b1:=false) (am (ds:=[.tup (.str kind::rest)]) (by simp[row,xC]) (Br g)) λ_=>am (ds:=[row h kind rest]) rfl (vt g)).trans rfl).trans rfl)))
noncomputable def kindOf:D->Str
 |.tup [_,.tup (.str k::_)]=>k
 |_=>("" : Str)
def bX (r:D):Bool:=decide (kindOf r=("root" : Str))
noncomputable def g6:D->Str
 |.tup [_,.tup (_::.str o::_)]=>o
 |_=>("" : Str)
theorem DW:oB aY (.str "root") (.str "office")=some (.int 0,false):=bT (by decide +kernel)
theorem tI {r:D}(g:ma r ss)(h:bX r=true):dO [r,.str "office"]=some (.str (g6 r),false):=by
 obtain⟨a,kind,rest,rfl,_,_,g⟩:=g;have h:kind=("root" : Str):=of_decide_eq_true h;subst h;rcases g.day with⟨_,o,r,rfl⟩|⟨e,_⟩
 ·exact qS (i:=0) DW rfl
 ·exact absurd rfl e
theorem nJ {r:D}(g:ma r ss):bQ [r]=some (.str (kindOf r),false):=by
 obtain⟨a,kind,rest,rfl,_⟩:=g;exact i6 _ _ _
theorem Bs (k:Str)(ws:List Str):Fd (.str k) (ws.map .str)=decide (k∈ws):=by
 induction ws with
 |nil=>simp[Fd]
 |cons w ws ih=>
  have:Fd (.str k) ((w::ws).map .str)=(du (.str w) (.str k) || Fd (.str k) (ws.map .str)):=rfl;rw[this,ih,rO];by_cases e:w=k
  ·simp[e]
  ·have e':¬k=w:=λz=>e z.symm;simp[e,e']
theorem yW (ws:List Str):(ws.map D.str).all fX=true:=by
 induction ws with
 |nil=>rfl
 |cons w ws ih=>simp[fX]
theorem kQ (zs:List Str):fu (zs.map .str)=some zs:=by
 induction zs with
 |nil=>rfl
 |cons z zs ih=>simp[ih]
theorem DX (k:Str)(ws:List Str):ub (.str k) (.lst (ws.map .str))=some (.bl (decide (k∈ws)),false):=by
 simp only[ub,j4,vJ,Bs];rw[if_pos ⟨rfl,yW ws⟩]
def tJ (aD:List D):Prop:=∀r∈aD,∃ss,ma r ss
theorem vv {aD:List D}(g:tJ aD)(hl:aD.length<=200):gg [.tup aD]=some (.lst (((aD.filter bX).map g6).map .str),true):=by
 have hc:=Bl (fi:=cK (ah 0)) (nT:=1) (cap:=[]) (tg:=eC 0) (c:=bw (f2 eB (fA bQ (ag (ah 0) al)) (fC (.str "root")))) (fe:=fA dO (ag (ah 0) (ag (fC (.str "office")) al))) (ρ:=[some (.tup aD,false)]) aD (λx=>x) bX (λx=>.str (g6 x)) (by simp) (by omega) λx hx=>by
  obtain⟨ss,gx⟩:=g x hx;exact⟨_,rfl,aO (b:=false) (ce (x:=.str (kindOf x)) (y:=.str "root") (b1:=false) (b2:=false) (am (ds:=[x]) (by simp[fR]) (nJ gx)) rfl (Fw _ _)),λhx=>⟨false,am (ds:=[x,.str "office"]) (by simp[fR]) (tI gx hx)⟩⟩
 rw[uP];exact au rfl (aE hc)
def vw (aD:List D)(r:D):Bool:=bX r && decide (g6 r∈(aD.filter bX).map g6)
theorem yX {aD:List D}{r:D}(g:tJ aD)(hl:aD.length<=200)(gr:ma r ss):eK [.tup aD,r]=some (.bl (vw aD r),false):=by
 refine au rfl (aE (iW (p:=bX r) (q:=decide (g6 r∈(aD.filter bX).map g6)) (b1:=false) (ce (x:=.str (kindOf r)) (y:=.str "root") (b1:=false) (b2:=false) (am (ds:=[r]) rfl (nJ gr)) rfl (Fw _ _)) λMe=>?_));refine ce (x:=.str (g6 r)) (y:=.lst (((aD.filter bX).map g6).map .str)) (b1:=false) (b2:=true) (am (ds:=[r,.str "office"]) rfl (tI gr Me)) (am (ds:=[.tup aD]) rfl (vv g hl)) ?_;rw[DX]
theorem tK:∀(ss ts:List Str){x:Str},x∈ss.foldl gD ts->x∈ts∨x∈ss
 |[],ts,x,h=>.inl h
 |y::ss,ts,x,h=>by
  rw[List.foldl_cons]at h;rcases tK ss (gD ts y) h with h|h
  ·rcases mP.mp h with h|h
   ·exact .inl h
   ·exact .inr (h ▸ mX)
  ·exact .inr (mZ _ h)
theorem nK:∀(ss ts:List Str),ts.Nodup->(ss.foldl gD ts).Nodup
 |[],ts,h=>h
 |y::ss,ts,h=>nK ss (gD ts y) (uD h y)
theorem tL {ss:List Str}{x:Str}(h:x∈eY ss):x∈ss:=by
 rcases tK ss [] h with h|h
 ·cases h
 ·exact h
theorem pY:∀(ss ts:List Str){x:Str},x∈ts∨x∈ss->x∈ss.foldl gD ts
 |[],ts,x,h=>h.elim id λz=>nomatch z
 |y::ss,ts,x,h=>by
  rw[List.foldl_cons];refine pY ss (gD ts y) ?_;rcases h with h|h
  ·exact .inl (mP.mpr (.inl h))
  ·rcases vP h with h|h
   ·exact .inl (mP.mpr (.inr h))
   ·exact .inr h
theorem xF {ss:List Str}{x:Str}(h:x∈ss):x∈eY ss:=pY ss [] (.inr h)
theorem nL:∀(l m:List Str),l.Nodup->(∀x∈l,x∈m)->l.length<=m.length
 |[],m,_,_=>uM _
 |x::l,m,h,s=>by
  rw[List.nodup_cons]at h;have hx:=s x mX;have:=nL l (m.erase x) h.2 λy hy=>(List.mem_erase_of_ne (a:=y) (b:=x) (λe=>h.1 (by rw[←e];exact hy))).mpr (s y (mZ _ hy));rw[List.length_erase_of_mem hx]at this;have:0<m.length:=List.length_pos_of_mem hx;rw[vE];omega
theorem tM {h:Int}{kind:Str}{rest:List D}{parts:List Str}(hp:fz aY (.str kind)=some (.tup (parts.map .str),false)):dg [row h kind rest]=some (.lst ((parts.zip rest).map λx=>.tup [.str x.1,x.2]),true):=by
 refine au rfl (aE ?_);have e1:f1 (fz aY) (fA bQ (ag (ah 0) al)) [some (row h kind rest,false)]=some (.tup (parts.map .str),false):=pV (x:=.str kind) (b:=false) (am (ds:=[row h kind rest]) rfl (i6 h kind rest)) hp;have e2:mN (f2 eE (ah 0) (fC (.int 1))) (cE (fC (.int 1))) dA [some (row h kind rest,false)]=some (.tup rest,false):=by simp[row,xC,yT]
 show(((f1 (fz aY) (fA bQ (ag (ah 0) al)) [some (row h kind rest,false)]).bind λx=>(mN (f2 eE (ah 0) (fC (.int 1))) (cE (fC (.int 1))) dA [some (row h kind rest,false)]).bind λy=>(j4 x.1).bind λxs=>(j4 y.1).map λys=>fZ xs ys).map λds=>(D.lst ds,true))=_;rw[e1,e2];simp[t8]
theorem yY {r:D}(g:ma r ss):dh [r]=some (.lst ((kr (eY ss)).map .str),true):=by
 obtain⟨h,kind,rest,rfl,_,_,g⟩:=g;obtain⟨parts,hp,hl,_,hk⟩:=g.parts;have qm:=g.ss2;have Cj:=Bl (fi:=cK (fA dg (ag (ah 0) al))) (nT:=2) (cap:=[]) (tg:=xg [0,1]) (c:=lF (bw (f2 ub (ah 0) (fC df))) (bw (f2 qD (ah 1) (fC .non)))) (fe:=ah 1)
  (ρ:=[some (row h kind rest,false),none]) (parts.zip rest) (λx=>.tup [.str x.1,x.2]) (λx=>gF x.1 && there x.2) (·.2) (by
   have e1:fA dg (ag (ah 0) al) [some (row h kind rest,false),none]=_:=am (ds:=[row h kind rest]) rfl (tM hp);show Option.bind (fA dg (ag (ah 0) al) [some (row h kind rest,false),none]) _=_;rw[e1];rfl) (by
   have:=g.len;rw[List.length_zip];omega) λx hx=>by
   have Qy:=(g.flat x.2 (List.of_mem_zip hx).2);refine⟨_,rfl,xw (aO (b:=false) ?_) λ_=>aO (b:=false) ?_,λ_=>⟨false,?_⟩⟩
   ·refine ce (x:=.str x.1) (y:=df) (b1:=false) (b2:=false) (by simp[fR]) rfl ?_;simp[df,gF,fX]
   ·exact ce (x:=x.2) (y:=.non) (b1:=false) (b2:=false) (by simp[fR]) rfl (tH _ Qy.2)
   ·simp[fR]
 refine au rfl (gQ (ds:=ss.map .str) ?_ (bM ss) (aE ?_))
 ·exact hk ▸ Cj
 ·have:ss.length<64:=by omega
  simp[this]
def fG (r:D):List Str:=match dh [r] with
 |some (.lst ds,_)=>(fu ds).getD []
 |_=>[]
theorem Bt {r:D}(g:ma r ss):dh [r]=some (.lst ((fG r).map .str),true)/\(fG r).length<=2/\∀s,s∈fG r↔s∈ss:=by
 have h:=yY g;have e:fG r=kr (eY ss):=by unfold fG;rw[h];simp[kQ]
 have h2:ss.length<=2:=by obtain⟨_,_,_,_,_,_,d⟩:=g;exact d.ss2
 refine⟨by rw[e];exact h,?_,λs=>?_⟩
 ·rw[e,(gc _).length_eq];exact vR (mQ ss) h2
 ·rw[e,(gc _).mem_iff];exact⟨tL,λz=>xF z⟩
def jB (aD:List D):Nat:=(eY (aD.flatMap fG)).length
theorem Bu {aD:List D}(g:tJ aD)(hl:aD.length<=200):gi [.tup aD]=some (.int (jB aD),false):=by
 obtain⟨ρ',e,v,rfl,hz⟩:=sU (tg:=eC 2) (g:=iE) (λi ρ=>∃(v:OB),ρ=[some (.tup aD,false),some (.lst (((aD.take i).flatMap fG).map .str),true),v]/\((aD.take i).flatMap fG).length<=2*i) aD
  [some (.tup aD,false),some (.lst [],true),none] ⟨none,rfl,by simp⟩ (by
   rintro i d ρ hd ⟨v,rfl,hz⟩;have hi:=(vV hd).1;obtain⟨ss,gd⟩:=g d (List.mem_of_getElem? hd);obtain⟨hp,qm,_⟩:=Bt gd;have hsz:(((aD.take i).flatMap fG).map D.str).length+((fG d).map D.str).length<=sizeLine:=dC (by simp only[vI];omega);have et:(aD.take (i+1)).flatMap fG=(aD.take i).flatMap fG++fG d:=by
    rw[List.take_succ,hd];simp[List.flatMap_append]
   refine⟨_,[some (.tup aD,false),some (.lst (((aD.take (i+1)).flatMap fG).map .str),true),some (d,false)],rfl,.inl ?_,some (d,false),rfl,by rw[et,vA];omega⟩;have hv:fA dh (ag (ah 2) al) [some (.tup aD,false),some (.lst (((aD.take i).flatMap fG).map .str),true),some (d,false)]=some (.lst ((fG d).map .str),true):=am (ds:=[d]) rfl hp;show si 1 (fA dh (ag (ah 2) al)) [some (.tup aD,false),some (.lst (((aD.take i).flatMap fG).map .str),true),some (d,false)]=_;simp only[si,List.getElem?_cons_succ,List.getElem?_cons_zero,hv,vJ];rw[if_pos ⟨trivial,bM _,hsz⟩,et];simp)
 rw[List.take_length]at hz;refine au rfl (gQ (ds:=[]) (by simp[sizeLine]) rfl (iD (mq (ds:=aD) (by simp[kh]) e) (aE (pV (x:=.lst ((aD.flatMap fG).map .str)) (b:=false) (by simp[kh]) ?_))));have:(aD.flatMap fG).length<4000:=by omega
 simp only[kx,kQ,vJ,if_pos this];rfl
theorem qT {aD:List D}{i:Nat}{r:D}(h:aD[i]? = some r):qp aD (i:Int)=some r:=by
 have gs:i<aD.length:=(vV h).1;rw[nk gs,←h,vU gs]
theorem jS {aD:List D}{i:Nat}{r:D}(hr:aD[i]? = some r)(Jl:i<60)(g:tJ (aD.take i))(gr:ma r ss)(hl:aD.length<=200):
  bq [.tup aD,.int i]=some (.bl (vw (aD.take i) r || decide (20<jB (aD.take (i+1)))),false):=by
 have ha:=qT hr;have ME:∀ρ:DL.Env,ρ[0]? = some (some (.tup aD,false))->ρ[1]? = some (some (.int i,false))->f2 eE (ah 0) (ah 1) ρ=some (r,false):=λρ h0 h1=>by simp[h0,h1,ha]
 have Io:=jh aD (i+1);rw[Int.natCast_add]at Io;have g1:tJ (aD.take (i+1)):=λx hx=>by
  rw[List.take_succ,hr]at hx;rcases List.mem_append.mp hx with hx|hx
  ·exact g x hx
  ·simp at hx;subst hx;exact⟨_,gr⟩
 have hn:=Bu g1 (by simp;omega);refine au rfl (ar (bu (p:=false) (q:=false) (aO (b:=false) (by simp[de];omega)) λ_=>cr (p:=true) (aO (b:=false) (am (ds:=[r]) (aW (ME _ rfl rfl) rfl) (xE gr)))) (aE (sX (p:=vw (aD.take i) r) (q:=decide (20<jB (aD.take (i+1)))) (b1:=false) (am (ds:=[.tup (aD.take i),r]) (aW (d:=.tup (aD.take i)) (b:=false) (by simp[jh]) (aW (ME _ rfl rfl) rfl)) (yX g (by simp;omega) gr)) λ_=>ce (x:=.int (jB (aD.take (i+1)))) (y:=.int 20) (b1:=false) (b2:=false) (am (ds:=[.tup (aD.take (i+1))]) (aW (d:=.tup (aD.take (i+1))) (b:=false) (by simp;exact Io) rfl) hn) rfl (by simp;omega))))
theorem tN {aD:List D}{i:Nat}(h:60<=i):bq [.tup aD,.int i]=some (.bl true,false) :=
 au rfl (bL (bu (p:=true) (q:=true) (aO (b:=false) (by simp[de];omega)) (by simp)) (aE rfl))
theorem tO {aD:List D}{i:Nat}{r:D}(hr:aD[i]? = some r)(Jl:i<60)(h:gU [r]=some (.bl false,false)):bq [.tup aD,.int i]=some (.bl true,false):=by
 have ha:=qT hr;have ME:∀ρ:DL.Env,ρ[0]? = some (some (.tup aD,false))->ρ[1]? = some (some (.int i,false))->f2 eE (ah 0) (ah 1) ρ=some (r,false):=λρ h0 h1=>by simp[h0,h1,ha]
 exact au rfl (bL (bu (p:=false) (q:=true) (aO (b:=false) (by simp[de];omega)) λ_=>cr (p:=false) (aO (b:=false) (am (ds:=[r]) (aW (ME _ rfl rfl) rfl) h))) (aE rfl))
theorem kR {g:FS}{n k:Nat}{ds:List D}{d:D}{b:Bool}(hl:ds.length=n)(e:g (ds.map (λd=>some (d,false))++List.replicate k none)=some (.rt d b)):iC g n k ds=some (d,b):=by
 unfold iC;rw[if_pos hl,e]
theorem nM {i n:Nat}(h:i<n):(cP 0 n).drop i=.int i::(cP 0 n).drop (i+1):=by
 have hl:i<(cP 0 n).length:=by simpa [cP]using h
 rw[List.drop_eq_getElem_cons hl];congr 1;simp[cP]
theorem vx {d:D}{aD:List D}{p n:Nat}(hp:p<n)(h0:∀i,i<p->bq [.tup aD,.int i]=some (.bl false,false))(h1:bq [.tup aD,.int p]=some (.bl true,false)):
  ∀(k i:Nat)(v:OB),i+k=p->eD (eC 2) Fu ((cP 0 n).drop i) [some (d,false),some (.tup aD,false),v]=some (.rt (.int p) false):=by
 intro k;induction k with
 |zero=>
  intro i v e;obtain rfl:i=p:=by omega
  rw[nM hp,jl];have:Fu [some (d,false),some (.tup aD,false),some (.int i,false)]=some (.rt (.int i) false):=yS (aO (b:=false) (am (ds:=[.tup aD,.int i]) rfl h1)) (aE rfl);show(match Fu [some (d,false),some (.tup aD,false),some (.int i,false)] with|some (.nx ρ')=>_|some (.ct ρ')=>_|some (.bk ρ')=>_|r=>r)=_;rw[this]
 |succ k ih=>
  intro i v e;rw[nM (by omega:i<n),jl];have:Fu [some (d,false),some (.tup aD,false),some (.int i,false)]=some (.nx [some (d,false),some (.tup aD,false),some (.int i,false)]):=Bj (aO (b:=false) (am (ds:=[.tup aD,.int i]) rfl (h0 i (by omega)))) rfl;show(match Fu [some (d,false),some (.tup aD,false),some (.int i,false)] with|some (.nx ρ')=>_|some (.ct ρ')=>_|some (.bk ρ')=>_|r=>r)=_;rw[this];exact ih (i+1) _ (by omega)
theorem KP {i:Nat}{f:FE}{h:FS}{ρ:DL.Env}{d:D}{b:Bool}{r:Option Res}(e:f ρ=some (d,b))(k:h (setE ρ i d b)=r):ay (aP i f) h ρ=r:=by
 unfold ay aP;rw[e];exact k
theorem pZ {aD:List D}{p:Nat}(hp:p<aD.length)(hl:aD.length<=200)(h0:∀i,i<p->bq [.tup aD,.int i]=some (.bl false,false))(h1:bq [.tup aD,.int p]=some (.bl true,false)){d:D}(hd:d=.lst aD∨d=.tup aD):
  cL [d]=some (.int p,false):=by
 have es:setE [some (d,false),none,none] 1 (.tup aD) false=[some (d,false),some (.tup aD,false),none]:=by
  unfold setE;split
  ·rfl
  ·rfl
 refine kR rfl (ar (cr (p:=true) (aO (b:=false) (am (ds:=[d,.tup [.ty "list",.ty "tuple"]]) (aW rfl (aW (d:=.tup [.ty "list",.ty "tuple"]) (b:=false) (by simp[sizeLine]) rfl)) ?_))) (KP (d:=.tup aD) (b:=false) (am (ds:=[d]) rfl ?_) ?_))
 ·rcases hd with rfl|rfl<;>simp
 ·rcases hd with rfl|rfl<;>simp
 ·show ay (gK (da (fA bS (fV 1 al))) (eC 2) Fu) gb (setE [some (d,false),none,none] 1 (.tup aD) false)=_;rw[es];have:=vx (d:=d) hp h0 h1 p 0 none (by omega);rw[List.drop_zero]at this;have e:gK (da (fA bS (fV 1 al))) (eC 2) Fu [some (d,false),some (.tup aD,false),none]=some (.rt (.int p) false):=by
   unfold gK;rw[fM (j:=aD.length) (b:=false) (by simp) (by omega)];exact this
  unfold ay;rw[e]
theorem tP {aD:List D}(hl:aD.length<=60)(h0:∀i,i<aD.length->bq [.tup aD,.int i]=some (.bl false,false))(hf:bR aD=true)(d:D)(hd:d=.lst aD∨d=.tup aD):dD [d]=some (.tup aD,false):=by
 obtain⟨ρ',e,v,rfl⟩:=nj (tg:=eC 2) (g:=jg) aD.length (λi ρ=>∃v:OB,ρ=[some (d,false),some (.tup aD,false),v])
  [some (d,false),some (.tup aD,false),none] ⟨none,rfl⟩ (by
   rintro i ρ hi ⟨v,rfl⟩;exact⟨_,_,rfl,.inl (Bj (aO (b:=false) (am (ds:=[.tup aD,.int i]) rfl (h0 i hi))) rfl),some (.int i,false),rfl⟩)
 refine au rfl (ar (cr (p:=true) (aO (b:=false) (am (ds:=[d,.tup [.ty "list",.ty "tuple"]]) (aW rfl (aW (d:=.tup [.ty "list",.ty "tuple"]) (b:=false) (by simp[sizeLine]) rfl)) ?_))) (iV (d:=.tup aD) (b:=false) (am (ds:=[d]) rfl ?_) (by simp[hf]) (iD (nu (fM (j:=aD.length) (b:=false) (by simp) (by omega)) e) (xu rfl))))
 ·rcases hd with rfl|rfl<;>simp
 ·rcases hd with rfl|rfl<;>simp
structure Nm6 (zs:List Str):Prop where
 len:zs.length=6
 nd:zs.Nodup
 nm:∀z∈zs,cQ z=true
variable {ps:List Str}
structure Fine (ps:List Str)(aD:List D):Prop where
 good:tJ aD
 nd:((aD.filter bX).map g6).Nodup
 nm:∀r∈aD,∀s∈fG r,s∈ps
theorem Fine.sub {a b:List D}(F:Fine ps b)(h:a.Sublist b):Fine ps a :=
 ⟨λr hr=>F.good r (h.subset hr),F.nd.sublist ((h.filter _).map _),λr hr=>F.nm r (h.subset hr)⟩
theorem Fine.app {a b:List D}(F:Fine ps a)(G:Fine ps b)(h:∀x∈a,∀y∈b,bX x=true->bX y=true->g6 x≠g6 y):Fine ps (a++b):=by
 refine⟨λr hr=>(List.mem_append.mp hr).elim (F.good r) (G.good r),?_,λr hr=>(List.mem_append.mp hr).elim (F.nm r) (G.nm r)⟩;rw[List.filter_append,List.map_append];refine List.nodup_append.mpr ⟨F.nd,G.nd,λx hx y hy=>?_⟩;obtain⟨u,hu,rfl⟩:=vO hx;obtain⟨v,hv,rfl⟩:=vO hy;obtain⟨u1,u2⟩:=List.mem_filter.mp hu;obtain⟨v1,v2⟩:=List.mem_filter.mp hv;exact h u u1 v v1 u2 v2
theorem Fine.noRoot {a:List D}(g:tJ a)(h:∀x∈a,bX x=false)(n:∀r∈a,∀s∈fG r,s∈ps):Fine ps a:=by
 refine⟨g,?_,n⟩;have:a.filter bX=[]:=List.filter_eq_nil_iff.mpr λx hx=>by rw[h x hx];decide
 rw[this];exact List.nodup_nil
theorem tQ {aD:List D}(F:Fine ps aD):jB aD<=ps.length:=by
 have:=nL (eY (aD.flatMap fG)) ps (nK _ [] List.nodup_nil) λx hx=>by
  obtain⟨r,hr,hs⟩:=List.mem_flatMap.mp (tL hx);exact F.nm r hr x hs
 exact this
theorem qa {aD:List D}(F:Fine ps aD){i:Nat}{r:D}(hr:aD[i]? = some r):vw (aD.take i) r=false:=by
 have hi:=(vV hr).1;have e:aD=aD.take i++r::aD.drop (i+1):=by
  have:=List.take_append_drop i aD;rw[List.drop_eq_getElem_cons hi]at this;have er:aD[i]=r:=(vV hr).2;rw[er]at this;exact this.symm
 unfold vw;cases h:bX r with
 |false=>rfl
 |true=>
  rw[Bool.true_and];refine decide_eq_false λwo=>?_;have nd:=F.nd;rw[e,List.filter_append,List.filter_cons_of_pos h,List.map_append,uZ]at nd;exact(List.nodup_append.mp nd).2.2 _ wo _ mX rfl
theorem xG {pre post:List D}(F:Fine ps pre)(MF:ps.length<=20)(hp:pre.length<=60)(hl:(pre++post).length<=200){i:Nat}(hi:i<pre.length):bq [.tup (pre++post),.int i]=some (.bl false,false):=by
 obtain⟨r,hr⟩:∃r,pre[i]? = some r:=⟨_,vU hi⟩;have LW:(pre++post)[i]? = some r:=by rw[List.getElem?_append_left hi];exact hr
 have ht:∀j,j<=pre.length->(pre++post).take j=pre.take j:=λj hj=>List.take_append_of_le_length hj;obtain⟨ss,gr⟩:=F.good r (List.mem_of_getElem? hr);rw[jS LW (by omega) (by rw[ht i (by omega)];exact λx hx=>F.good x (List.mem_of_mem_take hx)) gr hl,ht i (by omega),ht (i+1) (by omega),qa F hr,decide_eq_false (by have:=tQ (F.sub (List.take_sublist (i+1) pre));omega)];rfl
theorem Bv {pre post:List D}{r:D}(F:Fine ps pre)(MF:ps.length<=20)(hp:pre.length<=60)(hl:(pre++r::post).length<=200)
  (h:pre.length=60∨gU [r]=some (.bl false,false)∨∃ss,ma r ss/\(vw pre r=true∨20<jB (pre++[r]))) {d:D}(hd:d=.lst (pre++r::post)∨d=.tup (pre++r::post)):cL [d]=some (.int pre.length,false):=by
 have hr:(pre++r::post)[pre.length]? = some r:=by rw[List.getElem?_append_right (vT _)];simp
 refine pZ (by simp) hl (λi hi=>xG F MF hp hl hi) ?_ hd;by_cases Jl:pre.length=60
 ·exact tN (by omega)
 rcases h with h|h|⟨ss,gr,h⟩
 ·exact absurd h Jl
 ·exact tO hr (by omega) h
 ·have t1:(pre++r::post).take pre.length=pre:=by simp
  have t2:(pre++r::post).take (pre.length+1)=pre++[r]:=by rw[List.take_length_add_append];rfl
  rw[jS hr (by omega) (by rw[t1];exact F.good) gr hl,t1,t2];rcases h with h|h
  ·rw[h];rfl
  ·rw[decide_eq_true h,Bool.or_true]
theorem Bw {aD:List D}(F:Fine ps aD)(MF:ps.length<=20)(hl:aD.length<=60)(hf:bR aD=true){d:D}(hd:d=.lst aD∨d=.tup aD):dD [d]=some (.tup aD,false) :=
 tP hl (λi hi=>by have:=xG (post:=[]) F MF hl (by simp;omega) hi;rwa [uQ]at this) hf d hd
end Lw
namespace Lw
open PySem PySem.Spec DL L2
noncomputable def jn (c:Nat):List (List Nat)->List Nat
 |[]=>[]
 |[x]=>x
 |x::y::r=>x++c::jn c (y::r)
theorem By {c:Nat}:∀ {x y r s:List Nat},c∉x->c∉y->x++c::r=y++c::s->x=y/\r=s
 |[],[],r,s,_,_,e=>by simpa using e
 |[],b::y,r,s,_,hy,e=>by
  simp at e hy;exact absurd e.1 hy.1
 |a::x,[],r,s,hx,_,e=>by
  simp at e hx;exact absurd e.1.symm hx.1
 |a::x,b::y,r,s,hx,hy,e=>by
  simp at e hx hy;obtain⟨h1,h2⟩:=By hx.2 hy.2 e.2;exact⟨by rw[e.1,h1],h2⟩
theorem Bz {c:Nat}:∀ {l m:List (List Nat)},(∀x∈l,c∉x)->(∀x∈m,c∉x)->l≠[]->m≠[]->jn c l=jn c m->l=m
 |[],_,_,_,h,_,_=>absurd rfl h
 |_::_,[],_,_,_,h,_=>absurd rfl h
 |[x],[y],_,_,_,_,e=>by have e:x=y:=e;rw[e]
 |[x],y::z::r,hl,_,_,_,e=>by
  have e:x=y++c::jn c (z::r):=e;exact absurd (by rw[e];simp) (hl x (by simp))
 |x::z::r,[y],_,hm,_,_,e=>by
  have e:x++c::jn c (z::r)=y:=e;exact absurd (by rw[←e];simp) (hm y (by simp))
 |x::z::r,y::w::s,hl,hm,_,_,e=>by
  have e:x++c::jn c (z::r)=y++c::jn c (w::s):=e;obtain⟨h1,h2⟩:=By (hl x (by simp)) (hm y (by simp)) e;rw[h1,Bz (l:=z::r) (m:=w::s) (λa h=>hl a (mZ _ h)) (λa h=>hm a (mZ _ h)) (by simp) (by simp) h2]
theorem kS (c:Nat):∀ws:List Str,(Str.join ⟨#[c]⟩ ws).cps.toList=jn c (ws.map (·.cps.toList))
 |[]=>rfl
 |[x]=>rfl
 |x::y::r=>by
  show((x++⟨#[c]⟩++Str.join ⟨#[c]⟩ (y::r):Str).cps).toList=x.cps.toList++c::jn c ((y::r).map (·.cps.toList));rw[←kS c (y::r)];show((x.cps++#[c])++(Str.join ⟨#[c]⟩ (y::r)).cps).toList=_;simp
theorem e7 (z4:Str)(ws:List Str):Txt.join z4 ws=Str.join z4 ws:=StrLaws.glued_eq_join z4 ws
theorem vy (x y:Str):Txt.split x y≠[]:=λh=>by have:=PyProof.Rows.split_pos x y;rw[h]at this;simp at this
theorem nN {c:Nat}{ws:List Str}(h0:ws≠[])(h:∀w∈ws,c∉w.cps.toList):Txt.split (Txt.join ⟨#[c]⟩ ws) ⟨#[c]⟩=ws:=by
 rw[e7];have e:=congrArg (λz:Str=>z.cps.toList) (StrLaws.join_split (Str.join ⟨#[c]⟩ ws) ⟨#[c]⟩);simp only[kS]at e;have hf:=StrLaws.split_free (Str.join ⟨#[c]⟩ ws) c;have:=Bz (c:=c) (by
  intro x hx;obtain⟨z,hz,rfl⟩:=vO hx;exact hf z hz) (by
  intro x hx;obtain⟨z,hz,rfl⟩:=vO hx;exact h z hz) (by simp[vy]) (by simp[h0]) e
 have inj:∀ {a b:Str},a.cps.toList=b.cps.toList->a=b:=λ{a b} e=>by
  obtain⟨a⟩:=a;obtain⟨b⟩:=b;simp at e;rw[e]
 exact List.map_inj_right (λa b e=>inj e) |>.mp this
theorem g9:(" " : Str)=⟨#[32]⟩:=by decide +kernel
theorem Fx:("\n" : PySem.Str)=⟨#[10]⟩:=by decide +kernel
noncomputable def jw (ws:List Str):Str:=Txt.join ⟨#[32]⟩ ws
theorem bx (a b c:Str):a++b++c=a++(b++c):=by
 show(⟨(a.cps++b.cps)++c.cps⟩:Str)=⟨a.cps++(b.cps++c.cps)⟩;rw[Array.append_assoc]
theorem lO (s:Str):∀(a b:List Str),a≠[]->b≠[]->Str.join s (a++b)=Str.join s a++s++Str.join s b
 |[],_,h,_=>absurd rfl h
 |[x],[],_,h=>absurd rfl h
 |[x],y::r,_,_=>rfl
 |x::y::a,b,_,hb=>by
  show x++s++Str.join s ((y::a)++b)=(x++s++Str.join s (y::a))++s++Str.join s b;rw[lO s (y::a) b (by simp) hb];simp only[bx]
theorem qc (s:Str):∀wss:List (List Str),(∀x∈wss,x≠[])->Str.join s (wss.map (Str.join s))=Str.join s wss.flatten
 |[],_=>rfl
 |[x],_=>by
  rw[List.flatten_cons,List.flatten_nil,uQ];rfl
 |x::y::r,h=>by
  have ih:=qc s (y::r) (λz hz=>h z (mZ _ hz));show Str.join s x++s++Str.join s ((y::r).map (Str.join s))=_;have hy:=h y (by simp);have e:(x::y::r).flatten=x++(y::r).flatten:=List.flatten_cons;rw[ih,e,lO s x _ (h x (by simp)) (by simp[hy])]
theorem DY {wss:List (List Str)}(h:∀x∈wss,x≠[]):jw (wss.map jw)=jw wss.flatten:=by
 have:jw=Str.join ⟨#[32]⟩:=funext λws=>e7 _ ws;rw[this];exact qc _ wss h
def Wd (w:Str):Prop:=32∉w.cps.toList/\10∉w.cps.toList/\w.length<=20
structure Pt where
 p:Str
 v:D
 ch:List (List Str)
def Pt.ws (t:Pt):List Str:=t.ch.flatten
noncomputable def Pt.tail (t:Pt):Bool:=decide (t.p=("pieces" : Str)) || decide (t.p=("changes" : Str))
structure PW (t:Pt):Prop where
 part:bf [.str t.p,t.v]=some (.bl true,false)
 flat:b9 t.v=true/\u6 t.v=false
 words:di [.str t.p,t.v]=some (.lst ((t.ch.map jw).map .str),true)
 ne:∀x∈t.ch,x≠[]
 few:t.ch.length<=8/\∀x∈t.ch,x.length<=2/\∀w∈x,Wd w
 value:∃b,eM [.str t.p,.lst (t.ws.map .str)]=some (t.v,b)
 count:∀rest:List Str,(t.tail=true->rest=[])->dE [.str t.p,.lst ((t.ws++rest).map .str)]=some (.int t.ws.length,false)
noncomputable def iI (L:List Pt):List Str:=(L.map Pt.ws).flatten
def gG:List Pt->Prop
 |[]=>True
 |[_]=>True
 |t::u::r=>t.tail=false/\gG (u::r)
theorem gG.tl {t:Pt}{r:List Pt}(h:gG (t::r)):gG r:=by
 cases r with
 |nil=>trivial
 |cons u r=>exact h.2
theorem gG.hd {t:Pt}{r:List Pt}(h:gG (t::r)):t.tail=true->iI r=[]:=by
 intro ht;cases r with
 |nil=>rfl
 |cons u r=>rw[h.1]at ht;cases ht
theorem Hz {ws:List Str}(h2:ws.length<=2)(h:∀w∈ws,Wd w):(jw ws).length<=50:=by
 refine vR (kC _ ws) ?_;match ws,h2 with
 |[],_=>simp
 |[a],_=>have:=(h a (by simp)).2.2;simp[dc];omega
 |[a,b],_=>have:=(h a (by simp)).2.2;have:=(h b (by simp)).2.2;simp[dc];omega
theorem qU {l:List Str}{k:Nat}(h:∀x∈l,x.length<=k):(l.map (·.length)).sum<=l.length*k:=by
 induction l with
 |nil=>simp
 |cons a l ih=>
  have:=h a (by simp);have:=ih λx hx=>h x (mZ _ hx);rw[uZ,List.sum_cons,vE,Nat.add_mul];omega
theorem yZ (zs:List Str):fu (zs.map .str)=some zs:=kQ zs
theorem xH {c:Nat}{us:List Str}{k:Nat}(hk:k<=10000)(h:∀u∈us,u.length<=k)(hl:us.length<=1000):dn (.str ⟨#[c]⟩) (.lst (us.map .str))=some (.str (Txt.join ⟨#[c]⟩ us),false):=by
 have:=qU h;have:us.length*k<=1000*10000:=Nat.mul_le_mul hl hk;have:(us.map (·.length)).sum+us.length*(⟨#[c]⟩:Str).length<=16777216:=by rw[dc];omega
 simp only[dn,yZ,vJ,if_pos this]
def xI (h:Int)(kind:Str)(L:List Pt):List Str:=(Str.ofString (toString h))::kind::iI L
noncomputable def B1 (L:List Pt):List (List Str):=(L.map Pt.ch).flatten
theorem nO (t:Pt)(L:List Pt):B1 (t::L)=t.ch++B1 L:=by simp[B1]
theorem kT (t:Pt)(L:List Pt):iI (t::L)=t.ws++iI L:=by simp[iI]
theorem Fy:∀L:List Pt,(B1 L).flatten=iI L
 |[]=>rfl
 |t::L=>by rw[nO,kT,List.flatten_append,Fy L];rfl
theorem qd (r0:OB):∀(L:List Pt)(us:List Str)(x y:OB),(∀t∈L,PW t)->us.length+8*L.length<=1000 ->
  ∃x' y',eD (xg [2,3]) jR (L.map λt=>.tup [.str t.p,t.v]) [r0,some (.lst (us.map .str),true),x,y]=some (.nx [r0,some (.lst ((us++(B1 L).map jw).map .str),true),x',y'])
 |[],us,x,y,_,_=>⟨x,y,by simp[eD,B1]⟩
 |t::L,us,x,y,h,hl=>by
  have ht:=h t (by simp);rw[vE]at hl;have h8:=ht.few.1;obtain⟨x',y',e⟩:=qd r0 L (us++t.ch.map jw) (some (.str t.p,false)) (some (t.v,false)) (λu hu=>h u (mZ _ hu)) (by simp;omega);refine⟨x',y',?_⟩;have hw:fA di (ag (ah 2) (ag (ah 3) al)) [r0,some (.lst (us.map .str),true),some (.str t.p,false),some (t.v,false)]=some (.lst ((t.ch.map jw).map .str),true):=am (ds:=[.str t.p,t.v]) rfl ht.words;have hb:jR [r0,some (.lst (us.map .str),true),some (.str t.p,false),some (t.v,false)]=some (.nx [r0,some (.lst ((us++t.ch.map jw).map .str),true),some (.str t.p,false),some (t.v,false)]):=by
   show si 1 (fA di (ag (ah 2) (ag (ah 3) al))) _=_;have hsz:(us.map D.str).length+((t.ch.map jw).map D.str).length<=sizeLine:=dC (by simp;omega);simp only[si,List.getElem?_cons_succ,List.getElem?_cons_zero,hw,vJ];rw[if_pos ⟨trivial,bM _,hsz⟩];simp
  have wl:xg [2,3] (.tup [.str t.p,t.v]) [r0,some (.lst (us.map .str),true),x,y]=some [r0,some (.lst (us.map .str),true),some (.str t.p,false),some (t.v,false)]:=by
   have:=ht.flat;simp[eU,this.1]
  rw[uZ,eD,wl,vJ,hb];dsimp only;rw[e,nO];simp
theorem l8 {n:Nat}(h:n<=9999):n.log2<1920:=by
 by_cases h0:n=0
 ·subst h0;decide
 ·exact(Nat.log2_lt h0).mpr (Nat.lt_of_le_of_lt h (by decide +kernel))
theorem DZ {h:Int}{kind:Str}{L:List Pt}(hL:∀t∈L,PW t)(hl:L.length<=8)(h0:0<=h)(h1:h<=9999)(hk:kind.length<=8)(ht:(Str.ofString (toString h)).length<=20)(hp:fz aY (.str kind)=some (.tup ((L.map (·.p)).map .str),false)):js [row h kind (L.map (·.v))]=some (.str (jw (xI h kind L)),false):=by
 obtain⟨x,y,e⟩:=qd (some (row h kind (L.map (·.v)),false)) L [(Str.ofString (toString h)),kind] none none hL (by simp;omega);have hz:((L.map (·.p)).zip (L.map (·.v))).map (λx=>D.tup [.str x.1,x.2])=L.map λt=>.tup [.str t.p,t.v]:=by
  rw[List.zip_map',uP];rfl
 refine au rfl (gQ (ds:=[.str (toString h),.str kind]) ?_ (by simp) (iD (mq (ds:=L.map λt=>.tup [.str t.p,t.v]) ?_ e) (aE ?_)))
 ·have e1:fA bQ (ag (ah 0) al) [some (row h kind (L.map (·.v)),false),none,none,none]=some (.str kind,false):=am (ds:=[row h kind (L.map (·.v))]) rfl (i6 _ _ _);have e2:fA iT (ag (f2 eE (ah 0) (fC (.int 0))) al) [some (row h kind (L.map (·.v)),false),none,none,none]=some (.str (toString h),false):=am (ds:=[.int h]) (by simp[row,t6]) (by
   have:=l8 (n:=h.natAbs) (by omega);simp[this])
  exact am (ds:=[.str (toString h),.str kind]) (aW e2 (aW e1 rfl)) (by simp[sizeLine])
 ·have e1:=am (fa:=ag (ah 0) al) (ρ:=kh [some (row h kind (L.map (·.v)),false),some (.lst [.str (toString h),.str kind],true),none,none]) (ds:=[row h kind (L.map (·.v))]) rfl (tM (h:=h) (rest:=L.map (·.v)) hp);show Option.bind (fA dg (ag (ah 0) al) (kh [some (row h kind (L.map (·.v)),false),some (.lst [.str (toString h),.str kind],true),none,none])) _=_;rw[e1,hz];rfl
 ·have hj:jw (xI h kind L)=Txt.join ⟨#[32]⟩ ([(Str.ofString (toString h)),kind]++(B1 L).map jw):=by
   have:=DY (wss:=[[(Str.ofString (toString h))],[kind]]++B1 L) (by
    intro x hx;rcases List.mem_append.mp hx with hx|hx
    ·simp at hx;rcases hx with rfl|rfl<;>simp
    ·obtain⟨l,hl,hx⟩:=List.mem_flatten.mp hx;obtain⟨t,ht,rfl⟩:=vO hl;exact(hL t ht).ne x hx)
   rw[List.flatten_append,Fy,List.map_append]at this;exact this.symm
  rw[hj];refine ce (x:=.str " ") (y:=.lst (([(Str.ofString (toString h)),kind]++(B1 L).map jw).map .str)) (b1:=false) (b2:=false) rfl rfl ?_;rw[g9];refine xH (k:=50) (by omega) ?_ ?_
  ·intro u hu;rcases List.mem_append.mp hu with hu|hu
   ·rcases vP hu with rfl|hu
    ·omega
    ·rcases vP hu with rfl|hu
     ·omega
     ·cases hu
   ·obtain⟨x,hx,rfl⟩:=vO hu;obtain⟨l,hl,hx⟩:=List.mem_flatten.mp hx;obtain⟨t,ht,rfl⟩:=vO hl;have:=(hL t ht).few.2 x hx;exact Hz this.1 this.2
  ·have:∀M:List Pt,(∀t∈M,PW t)->(B1 M).length<=8*M.length:=by
    intro M;induction M with
    |nil=>intro _;simp[B1]
    |cons t M ih=>
     intro hM;have:=ih λu hu=>hM u (mZ _ hu);have:=(hM t (by simp)).few.1;rw[nO,vA,vE];omega
   have:=this L hL;simp;omega
theorem B3 {l:List D}{n:Nat}(h:n<=l.length):iP l (some (n:Int)) none=l.drop n:=by
 unfold iP;rw[kD (v:=(n:Int)) (by omega)];have:HT.cW l.length l.length none=l.length:=rfl;rw[this,Int.toNat_natCast,Nat.min_eq_left h];rw[List.take_of_length_le (by simp)]
theorem qe (w0:D):∀(L:List Pt)(gZ:List D)(x y:OB),(∀t∈L,PW t)->gG L->gZ.length+L.length<=1000->(iI L).length<=1000 ->
  ∃x' y',eD (eC 3) jP (L.map λt=>.str t.p) [some (w0,false),some (.lst gZ,true),some (.lst ((iI L).map .str),true),x,y]=some (.nx [some (w0,false),some (.lst (gZ++L.map (·.v)),true),some (.lst [],true),x',y'])
 |[],gZ,x,y,_,_,_,_=>⟨x,y,by simp[eD,iI]⟩
 |t::L,gZ,x,y,h,FU,hl,hw=>by
  have ht:=h t (by simp);rw[vE]at hl;rw[kT,vA]at hw;obtain⟨x',y',e⟩:=qe w0 L (gZ++[t.v]) (some (.str t.p,false)) (some (.int t.ws.length,false)) (λu hu=>h u (mZ _ hu)) FU.tl (by simp;omega) (by omega);refine⟨x',y',?_⟩;have hc:=ht.count (iI L) FU.hd;obtain⟨b,hv⟩:=ht.value;have hb:jP [some (w0,false),some (.lst gZ,true),some (.lst ((t.ws++iI L).map .str),true),some (.str t.p,false),y]=some (.nx [some (w0,false),some (.lst (gZ++[t.v]),true),some (.lst ((iI L).map .str),true),some (.str t.p,false),some (.int t.ws.length,false)]):=by
   refine iV (d:=.int t.ws.length) (b:=false) (am (ds:=[.str t.p,.lst ((t.ws++iI L).map .str)]) rfl hc) rfl (ar (aO (b:=false) ?_) (KN (ds:=gZ) (d:=t.v) (b:=b) rfl (am (ds:=[.str t.p,.lst (t.ws.map .str)]) ?_ hv) ht.flat.1 (io (by omega)) (DQ (ds:=(iI L).map .str) ?_ (bM _))))
   ·refine ce (x:=.int t.ws.length) (y:=.int (t.ws++iI L).length) (b1:=false) (b2:=false) rfl (by simp) ?_;simp;omega
   ·refine aW (d:=.str t.p) (b:=false) rfl (aW (d:=.lst (t.ws.map .str)) (b:=true) ?_ rfl);simp[jh]
   ·have:=B3 (l:=(t.ws++iI L).map D.str) (n:=t.ws.length) (by simp);simp at this;simp[this]
  have wl:eC 3 (.str t.p) [some (w0,false),some (.lst gZ,true),some (.lst ((t.ws++iI L).map .str),true),x,y]=some [some (w0,false),some (.lst gZ,true),some (.lst ((t.ws++iI L).map .str),true),some (.str t.p,false),y]:=by
   simp
  rw[uZ,eD,kT,wl,vJ,hb];dsimp only;rw[e];simp
theorem Ea {kind:Str}{L:List Pt}(hL:∀t∈L,PW t)(FU:gG L)(hl:L.length<=8)(hw:(iI L).length<=1000)(hp:fz aY (.str kind)=some (.tup ((L.map (·.p)).map .str),false)):ly [.lst ((kind::iI L).map .str)]=some (.tup (.str kind::L.map (·.v)),false):=by
 obtain⟨x,y,e⟩:=qe (.lst ((kind::iI L).map .str)) L [.str kind] none none hL FU (by simp;omega) hw;have hf:bR (D.str kind::L.map (·.v))=true:=dL (by
  intro d hd;rcases vP hd with rfl|hd
  ·rfl
  ·obtain⟨t,ht,rfl⟩:=vO hd;exact(hL t ht).flat.1)
 refine au rfl (gQ (ds:=[.str kind]) ?_ (by simp) (gQ (ds:=(iI L).map .str) ?_ (bM _) (iD (mq (ds:=L.map λt=>.str t.p) ?_ e) (aE ?_))))
 ·have:=jh (.str kind::(iI L).map D.str) 1;simp at this;simp[this]
 ·simp[yT]
 ·have e1:f1 (fz aY) (f2 eE (ah 0) (fC (.int 0))) (kh [some (.lst ((kind::iI L).map .str),false),some (.lst [.str kind],true),some (.lst ((iI L).map .str),true),none,none])=some (.tup ((L.map (·.p)).map .str),false):=pV (x:=.str kind) (b:=false) (by simp[kh,t6]) hp;show Option.bind (f1 (fz aY) (f2 eE (ah 0) (fC (.int 0))) (kh [some (.lst ((kind::iI L).map .str),false),some (.lst [.str kind],true),some (.lst ((iI L).map .str),true),none,none])) _=_;rw[e1];simp
 ·simp[hf]
structure RL (ss:List Str)(h:Int)(kind:Str)(L:List Pt):Prop where
 pw:∀t∈L,PW t
 last:gG L
 len:L.length<=8
 parts:fz aY (.str kind)=some (.tup ((L.map (·.p)).map .str),false)
 good:DeedG h kind (L.map (·.v)) ss
 h0:0<=h
 h1:h<=9999
 kw:Wd kind
 kl:kind.length<=8
theorem KQ {L:List Pt}(hL:∀t∈L,PW t):∀w∈iI L,Wd w:=by
 intro w hw;obtain⟨l,hl,hw⟩:=List.mem_flatten.mp hw;obtain⟨t,ht,rfl⟩:=vO hl;obtain⟨x,hx,hw⟩:=List.mem_flatten.mp hw;exact((hL t ht).few.2 x hx).2 w hw
theorem vz:∀ {L:List Pt},(∀t∈L,PW t)->(iI L).length<=16*L.length
 |[],_=>by simp[iI]
 |t::L,h=>by
  have:=vz λu hu=>h u (mZ _ hu);have ht:=h t (by simp);have h8:=ht.few.1;have:∀l:List (List Str),(∀x∈l,x.length<=2)->l.flatten.length<=2*l.length:=by
   intro l;induction l with
   |nil=>intro _;simp
   |cons a l ih=>
    intro hl;have:=ih λx hx=>hl x (mZ _ hx);have:=hl a (by simp);rw[List.flatten_cons,vA,vE];omega
  have:=this t.ch λx hx=>(ht.few.2 x hx).1;rw[kT,vA,vE];unfold Pt.ws;omega
noncomputable def qf (l:List Nat):Bool:=(decide (1<=l.length) && decide (l.length<=4)) && (l.all (λc=>decide (48<=c) && decide (c<=57)) && (decide (l=[48]) || !decide (l.getD 0 0=48)))
theorem Eb:(List.range 10000).all (λm=>qf ((Nat.toDigits 10 m).map Char.toNat))=true:=by decide +kernel
noncomputable def nS (n:Int):Str:=toString n
theorem v7 {n:Int}(h0:0<=n)(h1:n<=9999):qf (nS n).cps.toList=true:=by
 obtain⟨m,rfl⟩:=Int.eq_ofNat_of_zero_le h0;have:=uR Eb m (List.mem_range.mpr (by omega));unfold nS;rw[PySem.W.KIN.signs_num];exact this
theorem za (c:Nat)(ρ:DL.Env)(h:ρ[0]? = some (some (.str ⟨#[c]⟩,false))):cH jJ jJ (fC (.str ("0" : PySem.Str))) (ah 0) (fC (.str ("9" : PySem.Str))) ρ=some (.bl (decide (48<=c) && decide (c<=57)),false):=by
 have e0:("0" : PySem.Str)=⟨#[48]⟩:=by decide +kernel
 have e9:("9" : PySem.Str)=⟨#[57]⟩:=by decide +kernel
 refine gS (x:=.str ⟨#[48]⟩) (y:=.str ⟨#[c]⟩) (z:=.str ⟨#[57]⟩) (b1:=false) (b2:=false) (b3:=false) (b4:=false) ?_ ?_ ?_ (mr _ _) λ_=>mr _ _
 ·rw[e0];rfl
 ·simp[h]
 ·rw[e9];rfl
theorem HA {a b:Str}(e:a.cps.toList=b.cps.toList):a=b:=by
 obtain⟨a⟩:=a;obtain⟨b⟩:=b;simp at e;rw[e]
theorem Ed {z:Str}(h:qf z.cps.toList=true):fE [.str z]=some (.bl true,false):=by
 unfold qf at h;rw[vD,vD,vD]at h;obtain⟨⟨h1,h4⟩,ha,hz⟩:=h;have h1:=of_decide_eq_true h1;have h4:=of_decide_eq_true h4;rw[gW]at h1 h4;have hl:z.length<=sizeLine:=dC (by omega);have e0:("0" : PySem.Str)=⟨#[48]⟩:=by decide +kernel
 have Cj:fA ll (ag (bP (cK (ah 0)) 1 [] (eC 0) cD (cH jJ jJ (fC (.str ("0" : PySem.Str))) (ah 0) (fC (.str ("9" : PySem.Str))))) al) [some (.str z,false)]=some (.bl true,false):=by
  have:=fw (fi:=cK (ah 0)) (nT:=1) (cap:=[]) (tg:=eC 0) (fe:=cH jJ jJ (fC (.str ("0" : PySem.Str))) (ah 0) (fC (.str ("9" : PySem.Str)))) (ρ:=[some (.str z,false)]) z.cps.toList (λc=>.str ⟨#[c]⟩) (λc=>.bl (decide (48<=c) && decide (c<=57))) (by simp[pE]) (by rw[gW];omega) λc _=>
   ⟨_,rfl,false,za c _ (by simp[fR])⟩
  refine am (aW (b:=true) this rfl) ?_;simp only[ll,nv,Option.map_some,List.all_map];congr 2;exact congrArg D.bl ha
 refine au rfl (ar (bu (p:=false) (q:=false) (cr (p:=true) (aO (b:=false) ((gS (x:=.int 1) (y:=.int z.length) (z:=.int 4) (b1:=false) (b2:=false) (b3:=false) (b4:=false) (p:=true) (q:=true) rfl (by simp[hl]) rfl (by simp;omega) λ_=>by simp;omega).trans rfl))) λ_=>cr (p:=true) (aO (b:=false) Cj)) (aE ?_));refine(sX (p:=decide (z=⟨#[48]⟩)) (q:=!decide (z.cps.toList.getD 0 0=48)) (b1:=false) (ce (x:=.str z) (y:=.str ⟨#[48]⟩) (b1:=false) (b2:=false) rfl (by rw[e0];rfl) (Fw _ _)) λ_=>?_).trans ?_
 ·have:=m8 (z:=z) (i:=0) (by omega) (by have:z.cps.size=z.length:=rfl;omega) (by omega);refine ce (x:=.str ⟨#[z.cps.toList.getD 0 0]⟩) (y:=.str ⟨#[48]⟩) (b1:=false) (b2:=false) (ce (x:=.str z) (y:=.int 0) (b1:=false) (b2:=false) rfl rfl this) (by rw[e0];rfl) ?_;simp
 ·congr 3;by_cases hc:z=⟨#[48]⟩
  ·simp[hc]
  ·have:¬z.cps.toList=[48]:=λe=>hc (HA e);rw[decide_eq_false this]at hz;rw[decide_eq_false hc];exact hz
theorem nP {c:FT}{f g:FE}{ρ:DL.Env}{r:OB}(e:c ρ=some true)(k:f ρ=r):ot c f g ρ=r:=by unfold ot;rw[e];exact k
theorem xJ {c:FT}{f g:FE}{ρ:DL.Env}{r:OB}(e:c ρ=some false)(k:g ρ=r):ot c f g ρ=r:=by unfold ot;rw[e];exact k
theorem nQ {n:Int}(h0:0<=n)(h1:n<=9999):cw [.str (nS n)]=some (.int n,false):=by
 have hd:=v7 h0 h1;have hn:PySem.intText? (nS n)=some n:=PySem.W.KIN.num_reads h0 (by omega);have hl:(nS n).length<=640:=by
  unfold qf at hd;rw[vD,vD]at hd;have:=of_decide_eq_true hd.1.2;rw[gW]at this;omega
 refine au rfl (aE ?_);have ht:bw (fA fE (ag (ah 0) al)) [some (.str (nS n),false)]=some true:=aO (b:=false) (am (ds:=[.str (nS n)]) rfl (Ed hd));exact nP ht (am (ds:=[.str (nS n)]) rfl (by simp[hn,hl]))
theorem ji {n:Int}(h0:0<=n)(h1:n<=9999):Wd (nS n):=by
 have hd:=v7 h0 h1;unfold qf at hd;rw[vD,vD,vD]at hd;obtain⟨⟨_,h4⟩,ha,_⟩:=hd;have h4:=of_decide_eq_true h4;rw[gW]at h4;refine⟨λhc=>?_,λhc=>?_,by omega⟩
 ·have:=uR ha _ hc;simp at this
 ·have:=uR ha _ hc;simp at this
theorem fg {p q:Str}{r:DL.Env}{b:Bool}(h:decide (p=q)=b):bw (f2 eB (ah 0) (fC (.str q))) (some (.str p,false)::r)=some b:=aO (b:=false) (ce (x:=.str p) (y:=.str q) (b1:=false) (b2:=false) rfl rfl (by simp[←h]))
theorem c9 (z:Str):jw [z]=z:=by unfold jw;rw[e7];rfl
theorem HB (y z:Str):jw [y,z]=y++⟨#[32]⟩++z:=by unfold jw;rw[e7];rfl
section
variable {p:Str}{v:D}{z:Str}
theorem qg (hv:iT [v]=some (.str z,false))(h1:decide (p=("matters" : Str))=false)(h2:decide (p=("pieces" : Str))=false)(h3:decide (p=("stretch" : Str))=false)(h4:decide (p=("whom" : Str))=false)(h5:decide (p=("changes" : Str))=false):di [.str p,v]=some (.lst (([[z]].map jw).map .str),true):=by
 have e:fA iT (ag (ah 1) al) [some (.str p,false),some (v,false),none]=some (.str z,false):=am (ds:=[v]) rfl hv;refine au rfl (ar (fg h1) (ar (fg h2) (ar (bu (fg h3) λ_=>fg h4) (ar (fg h5) (aE (am (ds:=[.str z]) (aW e rfl) ?_))))));simp[c9,sizeLine]
theorem jv {l:D}(h1:decide (p=("stretch" : Str))=false)(h2:decide (p=("pieces" : Str))=false)(h3:decide (p=("changes" : Str))=false):dE [.str p,l]=some (.int 1,false) :=
 au rfl (ar (fg h1) (ar (bu (fg h2) λ_=>fg h3) (aE rfl)))
theorem jT {l:D}{b:Bool}(h:ub (.str p) bi=some (.bl b,false)):bw (f2 ub (ah 0) (fC bi)) [some (.str p,false),some (l,false)]=some b:=aO (b:=false) (ce (x:=.str p) (y:=bi) (b1:=false) (b2:=false) rfl rfl h)
theorem IW {x:D}{r:List D}{q:D}:f2 eE (ah 1) (fC (.int 0)) [some (q,false),some (.lst (x::r),false)]=some (x,false):=by simp[t6]
theorem QF {x y:D}{r:List D}{q:D}:f2 eE (ah 1) (fC (.int 1)) [some (q,false),some (.lst (x::y::r),false)]=some (y,false):=by simp[xC]
theorem zc {n:Int}(h0:0<=n)(h9:n<=9999)(h:ub (.str p) bi=some (.bl true,false)):eM [.str p,.lst [.str (nS n)]]=some (.int n,false) :=
 au rfl (bL (jT h) (aE (am (ds:=[.str (nS n)]) (aW IW rfl) (nQ h0 h9))))
theorem zd (h:ub (.str p) bi=some (.bl false,false))(h1:decide (p=("matters" : Str))=false)(h2:decide (p=("stretch" : Str))=false)(h3:decide (p=("whom" : Str))=false)(h4:decide (p=("pieces" : Str))=false)(h5:decide (p=("changes" : Str))=false):eM [.str p,.lst [.str z]]=some (.str z,false) :=
 au rfl (ar (jT h) (ar (fg h1) (ar (fg h2) (ar (fg h3) (ar (fg h4) (ar (fg h5) (aE IW)))))))
end
theorem mv {n:Int}(h0:0<=n)(h9:n<=9999):iT [.int n]=some (.str (nS n),false):=by
 have:=l8 (n:=n.natAbs) (by omega);simp[this,nS]
theorem HC {p:Str}{n:Int}(h0:0<=n)(h9:n<=9999)(hp:bf [.str p,.int n]=some (.bl true,false))(wo:ub (.str p) bi=some (.bl true,false))
  (h1:decide (p=("matters" : Str))=false:=by decide +kernel) (h2:decide (p=("pieces" : Str))=false:=by decide +kernel) (h3:decide (p=("stretch" : Str))=false:=by decide +kernel) (h4:decide (p=("whom" : Str))=false:=by decide +kernel) (h5:decide (p=("changes" : Str))=false:=by decide +kernel):PW ⟨p,.int n,[[nS n]]⟩ :=
 ⟨hp,⟨rfl,rfl⟩,qg (mv h0 h9) h1 h2 h3 h4 h5,by simp,⟨by simp,by simp;exact ji h0 h9⟩,⟨false,zc h0 h9 wo⟩,λrest _=>jv h3 h2 h5⟩
theorem jC {z:Str}(h:cQ z=true):Wd z/\z≠⟨#[45]⟩:=by
 unfold cQ at h;rw[vD,vD]at h;obtain⟨⟨_,h8⟩,ha⟩:=h;have h8:=of_decide_eq_true h8;refine⟨⟨λhc=>?_,λhc=>?_,by omega⟩,λe=>?_⟩
 ·have:=uR ha _ hc;simp[g0]at this
 ·have:=uR ha _ hc;simp[g0]at this
 ·subst e;have:=uR ha 45 (by simp);simp[g0]at this
theorem vF {p z:Str}(hw:Wd z)(hp:bf [.str p,.str z]=some (.bl true,false))(wo:ub (.str p) bi=some (.bl false,false))
  (h1:decide (p=("matters" : Str))=false:=by decide +kernel) (h2:decide (p=("pieces" : Str))=false:=by decide +kernel) (h3:decide (p=("stretch" : Str))=false:=by decide +kernel) (h4:decide (p=("whom" : Str))=false:=by decide +kernel) (h5:decide (p=("changes" : Str))=false:=by decide +kernel):PW ⟨p,.str z,[[z]]⟩ :=
 ⟨hp,⟨rfl,rfl⟩,qg rfl h1 h2 h3 h4 h5,by simp,⟨by simp,by simp;exact hw⟩,⟨false,zd wo h1 h3 h4 h2 h5⟩,λrest _=>jv h3 h2 h5⟩
theorem tR {p:Str}{v:D}{ch:List (List Str)}(part:bf [.str p,v]=some (.bl true,false))(flat:b9 v=true/\u6 v=false)(words:di [.str p,v]=some (.lst ((ch.map jw).map .str),true))(ne:∀x∈ch,x≠[])(few:ch.length<=8/\∀x∈ch,x.length<=2/\∀w∈x,Wd w)
  (value:∃b,eM [.str p,.lst (ch.flatten.map .str)]=some (v,b)) (count:∀rest:List Str,(Pt.tail ⟨p,v,ch⟩=true->rest=[])->dE [.str p,.lst ((ch.flatten++rest).map .str)]=some (.int ch.flatten.length,false)):PW ⟨p,v,ch⟩:=⟨part,flat,words,ne,few,value,count⟩
noncomputable def uS:Option Str->Str
 |none=>⟨#[45]⟩
 |some z=>z
noncomputable def wD:Option Str->D
 |none=>.non
 |some z=>.str z
theorem B4:c8=.str ⟨#[45]⟩:=by
 have:("-" : PySem.Str)=⟨#[45]⟩:=by decide +kernel
 unfold c8;rw[this]
theorem B5 {d:D}{z:Str}(hd:(d=.non/\z=⟨#[45]⟩)∨(there d=true/\u6 d=false/\iT [d]=some (.str z,false))){r:DL.Env}:ot (bw (f2 Cs (ah 0) (fC .non))) (fC c8) (fA iT (ag (ah 0) al)) (some (d,false)::r)=some (.str z,false):=by
 rcases hd with⟨rfl,rfl⟩|⟨h1,h2,h3⟩
 ·exact nP (aO (b:=false) (ce (x:=.non) (y:=.non) (b1:=false) (b2:=false) rfl rfl (by simp[lj]))) (by rw[B4];rfl)
 ·refine xJ (aO (b:=false) (ce (x:=d) (y:=.non) (b1:=false) (b2:=false) rfl rfl ?_)) (am (ds:=[d]) rfl h3);cases d<;>simp[lj,there]at h1 h2 ⊢
theorem vL {o:Option Str}:di [.str "whom",wD o]=some (.lst (([[uS o]].map jw).map .str),true):=by
 have e:fA j0 (ag (ah 1) al) [some (.str "whom",false),some (wD o,false),none]=some (.tup [wD o],false):=am (ds:=[wD o]) rfl (by simp[sizeLine]);refine au rfl (ar (fg (by decide +kernel)) (ar (fg (by decide +kernel)) (DP (yS (bu (p:=false) (q:=true) (fg (by decide +kernel)) λ_=>fg (by decide +kernel)) (iV (d:=.tup [wD o]) (b:=false) (xJ (fg (by decide +kernel)) e) (by cases o<;>rfl) (aE ?_))))))
 have:=fw (fi:=cK (ah 2)) (nT:=1) (cap:=[]) (tg:=eC 0) (fe:=ot (bw (f2 Cs (ah 0) (fC .non))) (fC c8) (fA iT (ag (ah 0) al))) (ρ:=[some (.str "whom",false),some (wD o,false),some (.tup [wD o],false)]) [o] wD (λo=>.str (uS o)) (by simp) (by simp) λo _=>
  ⟨_,rfl,false,B5 (by cases o with
   |none=>exact .inl ⟨rfl,rfl⟩
   |some z=>exact .inr ⟨rfl,rfl,rfl⟩)⟩
 simp only[uZ,List.map_nil,c9];exact this
theorem xK {o:Option Str}(h:∀z,o=some z->cQ z=true):PW ⟨("whom" : Str),wD o,[[uS o]]⟩:=by
 refine tR ?_ (by cases o<;>exact⟨rfl,rfl⟩) vL (by simp) ⟨by simp,?_⟩ ⟨false,?_⟩ λrest _=>jv (by decide +kernel) (by decide +kernel) (by decide +kernel)
 ·cases o with
  |none=>exact DU
  |some z=>
   refine au rfl (ar (c2 (by decide +kernel)) (ar (c3 (by decide +kernel)) (bL (cq (by decide +kernel)) (aE ?_))));exact(sX (p:=false) (q:=true) (b1:=false) (ce (x:=.str z) (y:=.non) (b1:=false) (b2:=false) rfl rfl (by simp[lj])) λ_=>am (ds:=[.str z]) rfl (kP (h z rfl))).trans rfl
 ·simp;cases o with
  |none=>exact⟨by simp[uS],by simp[uS],by simp[uS,dc]⟩
  |some z=>exact(jC (h z rfl)).1
 ·refine au rfl (ar (jT (bT (by decide +kernel))) (ar (fg (by decide +kernel)) (ar (fg (by decide +kernel)) (bL (fg (by decide +kernel)) (aE ?_)))));have e:bw (f2 eB (f2 eE (ah 1) (fC (.int 0))) (fC c8)) [some (.str "whom",false),some (.lst [.str (uS o)],false)]=some (decide (uS o=⟨#[45]⟩)):=aO (b:=false) (ce (x:=.str (uS o)) (y:=.str ⟨#[45]⟩) (b1:=false) (b2:=false) IW (by rw[B4];rfl) (Fw _ _));cases o with
  |none=>exact nP (e.trans rfl) rfl
  |some z=>exact xJ (e.trans (by rw[show uS (some z)=z from rfl,decide_eq_false (jC (h z rfl)).2])) IW
def uN:Option Int->Str
 |none=>⟨#[45]⟩
 |some n=>nS n
noncomputable def uI:Option Int->D
 |none=>.non
 |some n=>.int n
def NC (s:Int)(o:Option Int):Prop:=0<=s/\s<=9999/\∀t,o=some t->s<t/\t<=9999
theorem HD {n:Int}(h0:0<=n)(h9:n<=9999):nS n≠⟨#[45]⟩:=by
 intro e;have:=v7 h0 h9;rw[e]at this;exact absurd this (by decide)
theorem KR {s:Int}{o:Option Int}(g:NC s o):ej [.tup [.int s,uI o]]=some (.bl true,false):=by
 obtain⟨h0,h9,ho⟩:=g;cases o with
 |none=>exact tG h0 h9
 |some t=>
  obtain⟨h1,h2⟩:=ho t rfl;refine au rfl (ar (bu (p:=false) (q:=false) (by simp) λ_=>bu (p:=false) (q:=false) (by simp) λ_=>cr (p:=true) (aO (b:=false) (am (ds:=[.int s]) (by simp[t6]) (ju h0 h9)))) (aE ((sX (p:=false) (q:=true) (b1:=false) (by simp[xC,lj,uI]) λ_=>(iW (p:=true) (q:=true) (b1:=false) (am (ds:=[.int t]) (by simp[xC,uI]) (ju (by omega) h2)) λ_=>by simp[t6,xC,uI];omega).trans rfl).trans rfl)))
theorem Ee {o:Option Int}(h:∀t,o=some t->0<=t/\t<=9999):lx [.str (uN o)]=some (uI o,false):=by
 refine au rfl (aE ?_);have e:bw (f2 eB (ah 0) (fC c8)) [some (.str (uN o),false)]=some (decide (uN o=⟨#[45]⟩)):=aO (b:=false) (ce (x:=.str (uN o)) (y:=.str ⟨#[45]⟩) (b1:=false) (b2:=false) rfl (by rw[B4];rfl) (Fw _ _));cases o with
 |none=>exact nP (e.trans rfl) rfl
 |some t=>
  obtain⟨h0,h9⟩:=h t rfl;exact xJ (e.trans (by rw[show uN (some t)=nS t from rfl,decide_eq_false (HD h0 h9)])) (am (ds:=[.str (nS t)]) rfl (nQ h0 h9))
theorem KS {o:Option Int}(h:∀t,o=some t->0<=t/\t<=9999):Wd (uN o):=by
 cases o with
 |none=>exact⟨by simp[uN],by simp[uN],by simp[uN,dc]⟩
 |some t=>exact ji (h t rfl).1 (h t rfl).2
theorem vM {s:Int}{o:Option Int}(g:NC s o):PW ⟨("stretch" : Str),.tup [.int s,uI o],[[nS s],[uN o]]⟩:=by
 have h0:=g.1;have h9:=g.2.1;have ho:∀t,o=some t->0<=t/\t<=9999:=λt e=>by have:=g.2.2 t e;omega
 refine tR (vp (KR g)) (by cases o<;>exact⟨rfl,rfl⟩) ?_ (by simp) ⟨by simp,?_⟩ ⟨false,?_⟩ λrest _=>au rfl (bL (fg (by decide +kernel)) (aE rfl))
 ·refine au rfl (ar (fg (by decide +kernel)) (ar (fg (by decide +kernel)) (DP (yS (bu (p:=true) (q:=true) (fg (by decide +kernel)) λh=>by cases h) (iV (d:=.tup [.int s,uI o]) (b:=false) (nP (fg (by decide +kernel)) rfl) (by cases o<;>rfl) (aE ?_))))))
  have:=fw (fi:=cK (ah 2)) (nT:=1) (cap:=[]) (tg:=eC 0) (fe:=ot (bw (f2 Cs (ah 0) (fC .non))) (fC c8) (fA iT (ag (ah 0) al))) (ρ:=[some (.str "stretch",false),some (.tup [.int s,uI o],false),some (.tup [.int s,uI o],false)]) [some s,o] uI (λo=>.str (uN o)) (by simp[uI]) (by simp) λx hx=>
   ⟨_,rfl,false,B5 (by
    cases x with
    |none=>exact .inl ⟨rfl,rfl⟩
    |some t=>
     have:0<=t/\t<=9999:=by
      simp at hx;rcases hx with rfl|hx
      ·exact⟨h0,h9⟩
      ·exact ho t hx.symm
     exact .inr ⟨rfl,rfl,mv this.1 this.2⟩)⟩
  simp only[uZ,List.map_nil,c9];exact this
 ·simp;exact⟨ji h0 h9,KS ho⟩
 ·refine au rfl (ar (jT (bT (by decide +kernel))) (ar (fg (by decide +kernel)) (bL (fg (by decide +kernel)) (aE (am (ds:=[.int s,uI o]) (aW (am (ds:=[.str (nS s)]) (aW IW rfl) (nQ h0 h9)) (aW (am (ds:=[.str (uN o)]) (aW QF rfl) (Ee ho)) rfl)) ?_)))));simp[sizeLine]
theorem qh (ps:List Str):(ps.map λx=>[x]).flatten=ps:=by
 induction ps with
 |nil=>rfl
 |cons a l ih=>rw[uZ,List.flatten_cons,ih];rfl
theorem Ef (ps:List Str):(ps.map λx=>[x]).map jw=ps:=by
 rw[uP];exact(List.map_congr_left λx _=>c9 x).trans (List.map_id _)
theorem ze {ps:List Str}(h1:1<=ps.length)(h8:ps.length<=8)(h:∀p∈ps,cQ p=true):PW ⟨("pieces" : Str),.tup (ps.map .str),ps.map λx=>[x]⟩:=by
 refine tR (yU (vn h1 h8 h)) ⟨bM ps,rfl⟩ ?_ (by simp) ⟨by simp[h8],?_⟩ ⟨false,?_⟩ λrest hr=>?_
 ·rw[Ef];refine au rfl (ar (fg (by decide +kernel)) (DP (yS (fg (by decide +kernel)) (aE (am (ds:=[.tup (ps.map .str)]) rfl ?_)))));simp
 ·intro x hx;obtain⟨z,hz,rfl⟩:=vO hx;simp;exact(jC (h z hz)).1
 ·rw[qh];refine au rfl (ar (jT (bT (by decide +kernel))) (ar (fg (by decide +kernel)) (ar (fg (by decide +kernel)) (ar (fg (by decide +kernel)) (bL (fg (by decide +kernel)) (aE (am (ds:=[.lst (ps.map .str)]) rfl ?_)))))));simp
 ·have:rest=[]:=hr (by show(decide (("pieces" : Str)=("pieces" : Str)) || decide (("pieces" : Str)=("changes" : Str)))=true;rw[decide_eq_true rfl];rfl);subst this;rw[qh,uQ];refine au rfl (ar (fg (by decide +kernel)) (bL (bu (p:=true) (q:=true) (fg (by decide +kernel)) λh=>by cases h) (aE (am (ds:=[.lst (ps.map .str)]) rfl ?_))));simp
noncomputable def md (c:Int×Str):D:=.tup [.int c.1,.str c.2]
structure ChG (cs:List (Int×Str)):Prop where
 one:∀c∈cs,(0<=c.1/\c.1<=7)/\cQ c.2=true
 up:(cs.map (·.1)).Pairwise (· < ·)
 len:cs.length<=8
theorem B6 (l:List D):iP l (some 1) none=l.tail:=by
 cases l with
 |nil=>rfl
 |cons d r=>exact yT d r
theorem B7:∀ {ps:List Int},ps.Pairwise (· < ·)->∀x∈ps.zip ps.tail,x.1<x.2
 |[],_,x,hx=>by cases hx
 |[a],_,x,hx=>by cases hx
 |a::b::r,h,x,hx=>by
  rcases vP hx with rfl|hx
  ·exact(List.pairwise_cons.mp h).1 b (by simp)
  ·exact B7 (List.pairwise_cons.mp h).2 x hx
theorem qi:∀(xs ys:List Int),fZ (xs.map .int) (ys.map .int)=(xs.zip ys).map λx=>.tup [.int x.1,.int x.2]
 |[],ys=>rfl
 |x::xs,[]=>rfl
 |x::xs,y::ys=>by have:=qi xs ys;unfold fZ at this ⊢;simp[this]
theorem vN {c:Int×Str}(h:(0<=c.1/\c.1<=7)/\cQ c.2=true):eV [md c]=some (.bl true,false):=by
 refine au rfl (ar (bu (p:=false) (q:=false) (by simp[md]) λ_=>by simp[md]) (aE ((iW (p:=true) (q:=true) (b1:=false) (am (ds:=[.int c.1,.int 0,.int 7]) (by simp[md,t6,eO]) (gX h.1.1 h.1.2)) λ_=>am (ds:=[.str c.2]) (by simp[md,xC]) (pX h.2)).trans rfl)))
theorem tS {cs:List (Int×Str)}(g:ChG cs):iq [.tup (cs.map md)]=some (.bl true,false):=by
 have hl:=g.len;have e1:fA ll (ag (bP (cK (ah 0)) 1 [] (eC 0) cD (fA eV (ag (ah 0) al))) al) [some (.tup (cs.map md),false),none]=some (.bl true,false):=by
  have:=fw (fi:=cK (ah 0)) (nT:=1) (cap:=[]) (tg:=eC 0) (fe:=fA eV (ag (ah 0) al)) (ρ:=[some (.tup (cs.map md),false),none]) cs md (λ_=>.bl true) (by simp) (by omega) λc hc=>
   ⟨_,rfl,false,am (ds:=[md c]) (by simp[fR]) (vN (g.one c hc))⟩
  exact am (aW (b:=true) this rfl) (kO cs)
 have e2:=fw (fi:=cK (ah 0)) (nT:=1) (cap:=[]) (tg:=eC 0) (fe:=f2 eE (ah 0) (fC (.int 0))) (ρ:=[some (.tup (cs.map md),false),none]) cs md (λc=>.int c.1) (by simp) (by omega) λc hc=>
  ⟨_,rfl,false,by simp[fR,md,t6]⟩
 have S2:cs.map (λc=>D.int c.1)=(cs.map (·.1)).map .int:=by rw[uP];rfl
 rw[S2]at e2;refine au rfl (ar (bu (p:=false) (q:=false) (by simp) λ_=>cr (p:=true) (aO (b:=false) e1)) (gQ (ds:=(cs.map (·.1)).map .int) (show bP (cK (ah 0)) 1 [] (eC 0) cD (f2 eE (ah 0) (fC (.int 0))) [some (.tup (cs.map md),false),none]=_ from e2) (sV _) (aE ?_)));have:=fw (fi:=y4 (ah 1) (mN (ah 1) (cE (fC (.int 1))) dA)) (nT:=2) (cap:=[]) (tg:=xg [0,1]) (fe:=f2 Fb (ah 0) (ah 1)) (ρ:=[some (.tup (cs.map md),false),some (.lst ((cs.map (·.1)).map .int),true)]) ((cs.map (·.1)).zip (cs.map (·.1)).tail) (λx=>.tup [.int x.1,.int x.2]) (λ_=>.bl true) (by
   have:=qi (cs.map (·.1)) (cs.map (·.1)).tail;simp[B6]at this ⊢;exact this) (by rw[List.length_zip];simp;omega) λx hx=>
  ⟨_,rfl,false,by have:=B7 g.up x hx;simp[fR,this]⟩
 exact am (aW (b:=true) this rfl) (kO _)
theorem Eg (x:Str):Str.empty++x=x:=by
 obtain⟨x⟩:=x;show(⟨#[]++x⟩:Str)=⟨x⟩;simp
theorem Eh {n:Int}(h0:0<=n)(h9:n<=9999):uV (.int n)=some (nS n):=by
 have h1:=l8 (n:=n.natAbs) (by omega);have h2:(nS n).length<=1000:=vR (ji h0 h9).2.2 (by omega);exact if_pos ⟨h1,h2⟩
theorem HE {z:Str}(h:cQ z=true):uV (.str z)=some z:=by
 have:z.length<=1000:=vR (jC h).1.2.2 (by omega);exact if_pos this
theorem B8 {c:Int×Str}(h:(0<=c.1/\c.1<=7)/\cQ c.2=true){r:DL.Env}:K7 (ah 0) (" " : Str) (ah 1) (some (.int c.1,false)::some (.str c.2,false)::r)=some (.str (jw [nS c.1,c.2]),false):=by
 have h1:=Eh h.1.1 (by omega:c.1<=9999);have h2:=HE h.2;have h3:(" " : Str).length<=1000:=by decide +kernel
 simp only[K7,ah,List.getElem?_cons_zero,List.getElem?_cons_succ,vJ,h1,h2,if_pos h3];rw[HB,g9,Eg]
def lA (c:Int×Str):List Str:=[nS c.1,c.2]
theorem xL:∀cs:List (Int×Str),(cs.map lA).flatten.length=2*cs.length
 |[]=>rfl
 |c::cs=>by rw[uZ,List.flatten_cons,vA,xL cs,vE];simp[lA];omega
theorem Fz:∀(cs:List (Int×Str))(k:Nat)(c:Int×Str),cs[k]? = some c->((cs.map lA).flatten.drop (2*k)).take 2=lA c
 |[],k,c,h=>by cases h
 |a::cs,0,c,h=>by
  cases h
  simp[lA]
 |a::cs,k+1,c,h=>by
  have ih:=Fz cs k c (by simpa using h);exact ih
theorem HF {l:List D}{a:Nat}(h:a+2<=l.length):iP l (some (a:Int)) (some ((a:Int)+2))=(l.drop a).take 2:=by
 unfold iP;rw[kD (v:=(a:Int)) (by omega),kD (v:=(a:Int)+2) (by omega)];have e1:min ((a:Int)).toNat l.length=a:=by omega
 have e2:min ((a:Int)+2).toNat l.length=a+2:=by omega
 rw[e1,e2,Nat.add_sub_cancel_left]
theorem HG (cs:List (Int×Str)):ls 0 2 cs.length=cs.zipIdx.map λx=>.int ((2*x.2:Nat):Int):=by
 refine List.ext_getElem? λi=>?_;unfold ls;rw[vB,vB,List.getElem?_zipIdx];by_cases h:i<cs.length
 ·rw[List.getElem?_range h,vU h];simp;omega
 ·rw[List.getElem?_eq_none (by simpa using h),List.getElem?_eq_none (by simpa using h)];rfl
theorem zf {f g h:FE}{ρ:DL.Env}{i j c:Int}{b1 b2 b3:Bool}(e1:f ρ=some (.int i,b1))(e2:g ρ=some (.int j,b2))(e3:h ρ=some (.int c,b3))(hc:(-1000<=i/\i<=1000/\-1000<=j/\j<=1000)/\(c=1∨c=2∨c=3∨c = -1)):jq f g h ρ=some (ls i c (Builtin.Range.rangeSize i j c).toNat):=by
 simp only[jq,e1,e2,e3,vJ];exact if_pos hc
theorem B9 {cs:List (Int×Str)}(g:ChG cs):∃b,iu [.lst ((cs.map lA).flatten.map .str)]=some (.tup (cs.map md),b):=by
 have hl:=g.len;by_cases h0:cs=[]
 ·subst h0;exact⟨_,bT (b:=false) (by decide +kernel)⟩
 have hn:=xL cs;refine⟨false,au rfl (N0 (d:=.lst (cs.zipIdx.map λx=>.lst ((lA x.1).map .str))) (b:=true) ?_ ?_ (.inr ?_) (aE (am (ds:=[.lst (cs.map md)]) (aW (b:=true) ?_ rfl) ?_)))⟩
 ·refine fw (fi:=jq (fC (.int 0)) (fA bS (ag (ah 0) al)) (fC (.int 2))) (nT:=1) (cap:=[0]) (tg:=eC 0) (fe:=mN (ah 1) (cE (ah 0)) (cE (f2 aF (ah 0) (fC (.int 2))))) (ρ:=[some (.lst ((cs.map lA).flatten.map .str),false),none]) cs.zipIdx (λx=>.int ((2*x.2:Nat):Int)) (λx=>.lst ((lA x.1).map .str)) ?_ (by simp;omega) λx hx=>?_
  ·have e:(Builtin.Range.rangeSize 0 ((2*cs.length:Nat):Int) 2).toNat=cs.length:=by
    unfold Builtin.Range.rangeSize;simp;omega
   have hc:(-1000<=(0:Int)/\(0:Int)<=1000/\-1000<=((2*cs.length:Nat):Int)/\((2*cs.length:Nat):Int)<=1000)/\((2:Int)=1∨(2:Int)=2∨(2:Int)=3∨(2:Int) = -1):=⟨by omega,by omega⟩;have bC:fA bS (ag (ah 0) al) [some (.lst ((cs.map lA).flatten.map .str),false),none]=some (.int ((2*cs.length:Nat):Int),false):=am (ds:=[.lst ((cs.map lA).flatten.map .str)]) rfl (by rw[ip,vI,hn]);rw[zf (b1:=false) (b2:=false) (b3:=false) rfl bC rfl hc,e,HG]
  ·obtain⟨c,k⟩:=x;have hk:cs[k]? = some c:=List.mem_zipIdx_iff_getElem?.mp hx;have gs:k<cs.length:=(vV hk).1;have:=HF (l:=(cs.map lA).flatten.map D.str) (a:=2*k) (by rw[vI,hn];omega);rw[←List.map_drop,←List.map_take,Fz cs k c hk]at this;refine⟨_,rfl,true,?_⟩;simp[fR]at this ⊢;exact this
 ·obtain⟨c,r,rfl⟩:=List.exists_cons_of_ne_nil h0;rfl
 ·obtain⟨c,r,rfl⟩:=List.exists_cons_of_ne_nil h0;rfl
 ·have hz:cs.zipIdx.map (λx=>D.lst ((lA x.1).map .str))=cs.map λc=>.lst ((lA c).map .str):=by
   have:=congrArg (List.map λc=>D.lst ((lA c).map .str)) (List.zipIdx_map_fst 0 cs);rw[uP]at this;exact this
  rw[hz];refine fw (fi:=cK (ah 1)) (nT:=1) (cap:=[]) (tg:=eC 0) (fe:=fA c7 (ag (f2 aF (fA aX (ag (fA cw (ag (f2 eE (ah 0) (fC (.int 0))) al)) al)) (mN (ah 0) (cE (fC (.int 1))) dA)) al)) (ρ:=[some (.lst ((cs.map lA).flatten.map .str),false),some (.lst (cs.map λc=>.lst ((lA c).map .str)),false)]) cs (λc=>.lst ((lA c).map .str)) md (by simp) (by omega) λc hc=>?_;obtain⟨⟨h1,h2⟩,h3⟩:=g.one c hc;refine⟨_,rfl,false,am (ds:=[.lst [.int c.1,.str c.2]]) (aW (b:=true) (ce (x:=.lst [.int c.1]) (y:=.lst [.str c.2]) (b1:=true) (b2:=true) (am (ds:=[.int c.1]) (aW (am (ds:=[.str (nS c.1)]) (aW (b:=false) ?_ rfl) (nQ h1 (by omega))) rfl) (by simp[sizeLine])) ?_ (by simp[sizeLine])) rfl) (by simp[md])⟩
  ·simp[fR,lA,t6]
  ·simp[fR,lA,yT]
 ·have:bR (cs.map md)=true:=dL (by intro d hd;obtain⟨c,_,rfl⟩:=vO hd;rfl);simp[this]
theorem wa {cs:List (Int×Str)}(g:ChG cs):PW ⟨("changes" : Str),.tup (cs.map md),cs.map lA⟩:=by
 have hl:=g.len;refine tR ?_ ⟨dL (by intro d hd;obtain⟨c,_,rfl⟩:=vO hd;rfl),rfl⟩ ?_ (by intro x hx;obtain⟨c,_,rfl⟩:=vO hx;simp[lA]) ⟨by simpa using hl,?_⟩ ?_ λrest hr=>?_
 ·exact au rfl (ar (c2 (by decide +kernel)) (ar (c3 (by decide +kernel)) (ar (cq (by decide +kernel)) (ar (cq (by decide +kernel)) (ar (cq (by decide +kernel)) (ar (cq (by decide +kernel)) (ar (cq (by decide +kernel)) (ar (cq (by decide +kernel)) (ar (cq (by decide +kernel)) (aE (am (ds:=[.tup (cs.map md)]) rfl (tS g))))))))))))
 ·have:=fw (fi:=cK (ah 1)) (nT:=2) (cap:=[]) (tg:=xg [0,1]) (fe:=K7 (ah 0) (" " : Str) (ah 1)) (ρ:=[some (.str "changes",false),some (.tup (cs.map md),false),none]) cs md (λc=>.str (jw (lA c))) (by simp) (by omega) λc hc=>
   ⟨_,rfl,false,B8 (g.one c hc)⟩
  rw[uP,uP];exact au rfl (ar (fg (by decide +kernel)) (ar (fg (by decide +kernel)) (ar (bu (p:=false) (q:=false) (fg (by decide +kernel)) λ_=>fg (by decide +kernel)) (bL (fg (by decide +kernel)) (aE this)))))
 ·intro x hx;obtain⟨c,hc,rfl⟩:=vO hx;have:=g.one c hc;simp[lA];exact⟨ji this.1.1 (by omega),(jC this.2).1⟩
 ·obtain⟨b,hv⟩:=B9 g;exact⟨b,au rfl (ar (jT (bT (by decide +kernel))) (ar (fg (by decide +kernel)) (ar (fg (by decide +kernel)) (ar (fg (by decide +kernel)) (ar (fg (by decide +kernel)) (bL (fg (by decide +kernel)) (aE (am (ds:=[.lst ((cs.map lA).flatten.map .str)]) rfl hv))))))))⟩
 ·have:rest=[]:=hr (by show(decide (("changes" : Str)=("pieces" : Str)) || decide (("changes" : Str)=("changes" : Str)))=true;decide +kernel);subst this;rw[uQ];refine au rfl (ar (fg (by decide +kernel)) (bL (bu (p:=false) (q:=true) (fg (by decide +kernel)) λ_=>fg (by decide +kernel)) (aE (am (ds:=[.lst ((cs.map lA).flatten.map .str)]) rfl ?_))));rw[ip,vI]
def qV (m:Nat):Str:=⟨(((List.range 8).filter (λk=>decide (m / 2 ^ k % 2=1))).map (97 + ·)).toArray⟩
theorem Ej:(List.range 256).all (λ(m:Nat)=>DN (fF [.int m]) (.str (qV m)) false)=true:=by decide +kernel
theorem Ek:(List.range 256).all (λ(m:Nat)=>decide (m=0) || DN (ir [.str (qV m)]) (.int m) false)=true:=by decide +kernel
theorem HH:(List.range 256).all (λ(m:Nat)=>(qV m).cps.toList.all g0 && decide ((qV m).length<=8))=true:=by decide +kernel
theorem HI {p:Nat->Bool}(h:(List.range 256).all p=true){m:Nat}(hm:m<=255):p m=true:=uR h m (List.mem_range.mpr (by omega))
theorem HJ {m:Nat}(h:m<=255):Wd (qV m):=by
 have:=HI HH h;rw[vD]at this;have h8:=of_decide_eq_true this.2;refine⟨λhc=>?_,λhc=>?_,by omega⟩
 ·have:=uR this.1 _ hc;simp[g0]at this
 ·have:=uR this.1 _ hc;simp[g0]at this
theorem wb {m:Nat}(h1:1<=m)(h:m<=255):PW ⟨("matters" : Str),.int m,[[qV m]]⟩:=by
 refine tR (vo (tE (by omega) (by omega))) ⟨rfl,rfl⟩ ?_ (by simp) ⟨by simp,by simp;exact HJ h⟩ ⟨false,?_⟩ λrest _=>jv (by decide +kernel) (by decide +kernel) (by decide +kernel)
 ·refine au rfl (bL (fg (by decide +kernel)) (aE (am (ds:=[.str (qV m)]) (aW (am (ds:=[.int m]) rfl (bT (HI Ej h))) rfl) ?_)));simp[c9,sizeLine]
 ·have:=HI Ek h;rw[decide_eq_false (by omega),Bool.false_or]at this;exact au rfl (ar (jT (bT (by decide +kernel))) (bL (fg (by decide +kernel)) (aE (am (ds:=[.str (qV m)]) (aW IW rfl) (bT this)))))
structure PG (t:Pt)(ss:List Str):Prop where
 pw:PW t
 pk:(if(gF t.p && there t.v)=true then [t.v]else [])=ss.map D.str
inductive w5:List Pt->List Str->Prop
 |nil:w5 [] []
 |cons {t:Pt}{ss:List Str}{L:List Pt}{EH:List Str}(h:PG t ss) (r:w5 L EH):w5 (t::L) (ss++EH)
theorem w5.all {L:List Pt}{ss:List Str}(g:w5 L ss):∀t∈L,PW t:=by
 induction g with
 |nil=>intro t h;cases h
 |cons h r ih=>exact λt ht=>(vP ht).elim (λe=>e ▸ h.pw) (ih t)
theorem zg (p:Str)(v:D)(r:List (Str×D)):pick ((p,v)::r)=(if(gF p && there v)=true then [v]else [])++pick r:=by
 unfold pick;rw[List.filter_cons];split<;>rfl
theorem w5.pick {L:List Pt}{ss:List Str}(g:w5 L ss):Lw.pick ((L.map (·.p)).zip (L.map (·.v)))=ss.map .str:=by
 induction g with
 |nil=>rfl
 |cons h r ih=>rw[uZ,uZ,List.zip_cons_cons,zg,ih,h.pk,List.map_append]
def pN (p:Str)(n:Int):Pt:=⟨p,.int n,[[nS n]]⟩
noncomputable def pT (p z:Str):Pt:=⟨p,.str z,[[z]]⟩
def pM (m:Nat):Pt:=⟨("matters" : Str),.int m,[[qV m]]⟩
def pS (s:Int)(o:Option Int):Pt:=⟨("stretch" : Str),.tup [.int s,uI o],[[nS s],[uN o]]⟩
def pW (o:Option Str):Pt:=⟨("whom" : Str),wD o,[[uS o]]⟩
noncomputable def pP (ps:List Str):Pt:=⟨("pieces" : Str),.tup (ps.map .str),ps.map λx=>[x]⟩
noncomputable def pC (cs:List (Int×Str)):Pt:=⟨("changes" : Str),.tup (cs.map md),cs.map lA⟩
theorem wc {p:Str}{v:D}(h:gF p=false):(if(gF p && there v)=true then [v]else [])=([]:List Str).map D.str:=by rw[h];rfl
theorem qW {p:Str}{n:Int}(h0:0<=n)(h9:n<=9999)(hp:bf [.str p,.int n]=some (.bl true,false))(wo:ub (.str p) bi=some (.bl true,false))(hx:gF p=false:=by decide +kernel)
  (h1:decide (p=("matters" : Str))=false:=by decide +kernel) (h2:decide (p=("pieces" : Str))=false:=by decide +kernel) (h3:decide (p=("stretch" : Str))=false:=by decide +kernel) (h4:decide (p=("whom" : Str))=false:=by decide +kernel) (h5:decide (p=("changes" : Str))=false:=by decide +kernel):PG (pN p n) [] :=
 ⟨HC h0 h9 hp wo h1 h2 h3 h4 h5,wc hx⟩
theorem qX {n:Int}(h0:0<=n)(h9:n<=9999):PG (pN ("day" : Str) n) []:=qW h0 h9 (Bp (by decide +kernel) (ju h0 h9)) (bT (by decide +kernel))
theorem BA {n:Int}(h0:0<=n)(h9:n<=9999):PG (pN ("since" : Str) n) []:=qW h0 h9 (Bp (by decide +kernel) (ju h0 h9)) (bT (by decide +kernel))
theorem jU {n:Int}(h0:0<=n)(h9:n<=9):PG (pN ("further" : Str) n) []:=qW h0 (by omega) (vq h0 h9) (bT (by decide +kernel))
theorem BB {n:Int}(h0:0<=n)(h9:n<=59):PG (pN ("of" : Str) n) []:=qW h0 (by omega) (KO h0 h9) (bT (by decide +kernel))
theorem F0 {p z:Str}(hz:cQ z=true)(h0:(decide (p=("day" : Str)) || decide (p=("since" : Str)))=false)(hp:(decide (p=("office" : Str)) || (decide (p=("by" : Str)) || decide (p=("person" : Str))))=true)(wo:ub (.str p) bi=some (.bl false,false))(hx:gF p=true)
  (h1:decide (p=("matters" : Str))=false:=by decide +kernel) (h2:decide (p=("pieces" : Str))=false:=by decide +kernel) (h3:decide (p=("stretch" : Str))=false:=by decide +kernel) (h4:decide (p=("whom" : Str))=false:=by decide +kernel) (h5:decide (p=("changes" : Str))=false:=by decide +kernel):PG (pT p z) [z] :=
 ⟨vF (jC hz).1 (xD h0 hp (kP hz)) wo h1 h2 h3 h4 h5,by simp[pT,hx]⟩
theorem nR {z:Str}(hz:cQ z=true):PG (pT ("by" : Str) z) [z]:=F0 hz (by decide +kernel) (by decide +kernel) (bT (by decide +kernel)) (by decide +kernel)
theorem jD {z:Str}(hz:cQ z=true):PG (pT ("person" : Str) z) [z]:=F0 hz (by decide +kernel) (by decide +kernel) (bT (by decide +kernel)) (by decide +kernel)
theorem nU {z:Str}(hz:cQ z=true):PG (pT ("office" : Str) z) [] :=
 ⟨vF (jC hz).1 (xD (by decide +kernel) (by decide +kernel) (kP hz)) (bT (by decide +kernel)),wc (p:=("office" : Str)) (by decide +kernel)⟩
theorem xM {z:Str}(h1:bf [.str "rule",.str z]=some (.bl true,false))(h2:cQ z=true):PG (pT ("rule" : Str) z) [] :=
 ⟨vF (jC h2).1 h1 (bT (by decide +kernel)),wc (p:=("rule" : Str)) (by decide +kernel)⟩
theorem nW {m:Nat}(h1:1<=m)(h:m<=255):PG (pM m) []:=⟨wb h1 h,wc (p:=("matters" : Str)) (by decide +kernel)⟩
theorem wd {s:Int}{o:Option Int}(g:NC s o):PG (pS s o) []:=⟨vM g,wc (p:=("stretch" : Str)) (by decide +kernel)⟩
theorem HK {z:Str}(h:cQ z=true):PG (pW (some z)) [z]:=⟨xK (by simp;exact h),by
 have:gF ("whom" : Str)=true:=by decide +kernel
 simp[pW,wD,this]⟩
theorem KU:PG (pW none) []:=⟨xK (by simp),by simp[pW,wD]⟩
theorem HL {ps:List Str}(h1:1<=ps.length)(h8:ps.length<=8)(h:∀p∈ps,cQ p=true):PG (pP ps) []:=⟨ze h1 h8 h,wc (p:=("pieces" : Str)) (by decide +kernel)⟩
theorem HM {cs:List (Int×Str)}(g:ChG cs):PG (pC cs) []:=⟨wa g,wc (p:=("changes" : Str)) (by decide +kernel)⟩
theorem xN:∀ {L:List Pt}{parts:List Str},L.map (·.p)=parts->(parts.dropLast.all λp=>!(decide (p=("pieces" : Str)) || decide (p=("changes" : Str))))=true->gG L
 |[],_,_,_=>trivial
 |[_],_,_,_=>trivial
 |t::u::L,_,rfl,h=>by
  rw[uZ,uZ,List.dropLast_cons₂,List.all_cons,vD]at h;refine⟨by have:=h.1;unfold Pt.tail;simpa using this,xN (L:=u::L) rfl h.2⟩
theorem ND {h:Int}{kind:Str}{L:List Pt}{ss parts:List Str}(g:w5 L ss)(h0:0<=h)(h9:h<=9999)(hp:L.map (·.p)=parts)
  (OP:(kind=("root" : Str)/\∃o r,L.map (·.v)=.str o::r)∨(kind≠("root" : Str)/\(∃(day:Int)(r:List D),L.map (·.v)=.int day::r/\day<=h/\0<=day/\(kind=("chosen" : Str)->∃a b c s,r=[a,b,c,.int s]/\day<=s))/\oB aY (.str kind) (.str "day")=some (.int 0,false)))
  (h2:ss.length<=2:=by exact Nat.le_of_ble_eq_true rfl) (hc:DN (fz aY (.str kind)) (.tup (parts.map .str)) false=true:=by decide +kernel) (FU:(parts.dropLast.all λp=>!(decide (p=("pieces" : Str)) || decide (p=("changes" : Str))))=true:=by decide +kernel) (OQ:decide (parts.length<=8)=true:=by decide +kernel)
  (hk:cQ kind=true:=by decide +kernel):RL ss h kind L:=by
 have bC:L.length<=8:=by have:=congrArg List.length hp;rw[vI]at this;have:=of_decide_eq_true OQ;omega
 have Mf:fz aY (.str kind)=some (.tup ((L.map (·.p)).map .str),false):=by rw[hp];exact bT hc
 have S3:kind.length<=8:=by
  have hk:=hk;unfold cQ at hk;rw[vD,vD]at hk;exact of_decide_eq_true hk.1.2
 refine⟨g.all,xN hp FU,bC,Mf,⟨⟨L.map (·.p),Mf,by simp,?_,g.pick⟩,h2,by simp;omega,?_,OP⟩,h0,h9,(jC hk).1,S3⟩
 ·intro x hx;rw[List.zip_map']at hx;obtain⟨t,ht,rfl⟩:=vO hx;exact(g.all t ht).part
 ·intro d hd;obtain⟨t,ht,rfl⟩:=vO hd;exact(g.all t ht).flat
theorem xO {h day:Int}{kind:Str}{L:List Pt}{ss parts:List Str}(g:w5 (pN ("day" : Str) day::L) ss)(h0:0<=day)(hd:day<=h)(h9:h<=9999)(hp:(pN ("day" : Str) day::L).map (·.p)=parts)(xW:kind=("chosen" : Str)->∃a b c s,L.map (·.v)=[a,b,c,.int s]/\day<=s)
  (h2:ss.length<=2:=by exact Nat.le_of_ble_eq_true rfl) (hc:DN (fz aY (.str kind)) (.tup (parts.map .str)) false=true:=by decide +kernel) (FU:(parts.dropLast.all λp=>!(decide (p=("pieces" : Str)) || decide (p=("changes" : Str))))=true:=by decide +kernel) (OQ:decide (parts.length<=8)=true:=by decide +kernel)
  (hk:cQ kind=true:=by decide +kernel) (hr:decide (kind=("root" : Str))=false:=by decide +kernel) (hi:DN (oB aY (.str kind) (.str "day")) (.int 0) false=true:=by decide +kernel):RL ss h kind (pN ("day" : Str) day::L) :=
 ND g (by omega) h9 hp (.inr ⟨of_decide_eq_false hr,⟨day,_,rfl,hd,h0,xW⟩,bT hi⟩) h2 hc FU OQ hk
structure Rw where
 h:Int
 kind:Str
 L:List Pt
def Rw.d (r:Rw):D:=row r.h r.kind (r.L.map (·.v))
def Rw.ws (r:Rw):List Str:=xI r.h r.kind r.L
def Rw.t (r:Rw):Str:=jw r.ws
theorem xP {ss:List Str}{r:Rw}(g:RL ss r.h r.kind r.L):∀w∈r.ws,Wd w:=by
 intro w hw;rcases vP hw with rfl|hw
 ·exact ji g.h0 g.h1
 ·rcases vP hw with rfl|hw
  ·exact g.kw
  ·exact KQ g.pw w hw
theorem HN {ss:List Str}{r:Rw}(g:RL ss r.h r.kind r.L):r.ws.length<=130:=by
 have:=vz g.pw;have:=g.len;show((Str.ofString (toString r.h))::r.kind::iI r.L).length<=130;simp;omega
theorem KW {ss:List Str}{r:Rw}(g:RL ss r.h r.kind r.L):r.t.length<=3000:=by
 refine vR (kC _ r.ws) ?_;have h1:=qU (l:=r.ws) (k:=20) λx hx=>(xP g x hx).2.2;have h2:=HN g;rw[dc];omega
theorem BC {c x:Nat}:∀ {l:List (List Nat)},x∈jn c l->x=c∨∃y∈l,x∈y
 |[],h=>by cases h
 |[a],h=>.inr ⟨a,by simp,h⟩
 |a::b::r,h=>by
  rcases List.mem_append.mp h with h|h
  ·exact .inr ⟨a,by simp,h⟩
  ·rcases vP h with h|h
   ·exact .inl h
   ·rcases BC h with h|⟨y,hy,h⟩
    ·exact .inl h
    ·exact .inr ⟨y,mZ _ hy,h⟩
theorem NE {ss:List Str}{r:Rw}(g:RL ss r.h r.kind r.L):10∉r.t.cps.toList:=by
 unfold Rw.t jw;rw[e7,kS];intro h;rcases BC h with h|⟨y,hy,h⟩
 ·cases h
 ·obtain⟨w,hw,rfl⟩:=vO hy;exact(xP g w hw).2.1 h
theorem zh {ss:List Str}{r:Rw}(g:RL ss r.h r.kind r.L):e5 [.str r.t]=some (r.d,false):=by
 have hs:Txt.split r.t ⟨#[32]⟩=r.ws:=nN (by simp[Rw.ws,xI]) λw hw=>(xP g w hw).1;have hd:=Ea g.pw g.last g.len (by have:=vz g.pw;have:=g.len;omega) g.parts;have hl:=KW g;have OO:(aY.lookup r.kind).isSome=true:=by
  have hp:=g.parts;simp only[fz]at hp;obtain⟨d,h1,_⟩:=oY hp;rw[h1];rfl
 have hn:cw [.str (Str.ofString (toString r.h))]=some (.int r.h,false):=nQ g.h0 g.h1;have OR:ma r.d ss:=⟨r.h,r.kind,_,rfl,g.h0,g.h1,g.good⟩;have hf:b9 r.d=true:=by
  have:bR (r.L.map (·.v))=true:=dL (by intro d hd;obtain⟨t,ht,rfl⟩:=vO hd;exact(g.pw t ht).flat.1);simp[Rw.d,row,this]
 have e1:f2 eZ (ah 0) (fC (.str " ")) [some (.str r.t,false),none,none]=some (.lst (r.ws.map .str),true):=by
  refine ce (x:=.str r.t) (y:=.str ⟨#[32]⟩) (b1:=false) (b2:=false) rfl (by rw[g9];rfl) ?_;have:0<(⟨#[32]⟩:Str).length/\r.t.length<=100000:=⟨by rw[dc];omega,by omega⟩;simp only[eZ,if_pos this,hs]
 have hw:r.ws.map D.str=.str (Str.ofString (toString r.h))::.str r.kind::(iI r.L).map .str:=rfl;rw[hw]at e1;refine au rfl (gQ (ds:=.str (Str.ofString (toString r.h))::.str r.kind::(iI r.L).map .str) e1 (by rw[←hw];exact bM _) (ar (bu (p:=false) (q:=false) (aO (b:=false) ?_) λ_=>aO (b:=false) (pV (x:=.str r.kind) (b:=false) (by simp[xC]) ?_)) (iV (d:=r.d) (b:=false) (am (ds:=[.int r.h,.tup (.str r.kind::r.L.map (·.v))]) (aW (b:=false) (am (ds:=[.str (Str.ofString (toString r.h))]) (aW (b:=false) ?_ rfl) hn) (aW (b:=false) (am (ds:=[.lst ((r.kind::iI r.L).map .str)]) (aW (b:=true) ?_ rfl) hd) rfl)) ?_) hf (aE (nP (aO (b:=false) (am (ds:=[r.d]) rfl (xE OR))) rfl)))))
 ·refine ce (x:=.int ((D.str (Str.ofString (toString r.h))::D.str r.kind::(iI r.L).map D.str).length:Nat)) (y:=.int 2) (b1:=false) (b2:=false) rfl rfl ?_;simp;omega
 ·simp only[jM,OO];rfl
 ·simp[t6]
 ·simp[yT]
 ·simp[sizeLine,Rw.d,row]
theorem BD {ss:List Str}{r:Rw}(g:RL ss r.h r.kind r.L)(h:r.ws.length<=40):r.t.length<=900:=by
 refine vR (kC _ r.ws) ?_;have h1:=qU (l:=r.ws) (k:=20) λx hx=>(xP g x hx).2.2;rw[dc];omega
structure wv (t:Str)(d:D):Prop where
 row:e5 [.str t]=some (d,false)
 nl:10∉t.cps.toList
 len:t.length<=900
 nt:Fo d=true
 flat:b9 d=true
theorem xQ {ss:List Str}{r:Rw}(g:RL ss r.h r.kind r.L):b9 r.d=true:=by
 have:bR (r.L.map (·.v))=true:=dL (by intro d hd;obtain⟨t,ht,rfl⟩:=vO hd;exact(g.pw t ht).flat.1);simp[Rw.d,row,this]
theorem El {ss:List Str}{r:Rw}(g:RL ss r.h r.kind r.L)(h:r.ws.length<=40):wv r.t r.d:=⟨zh g,NE g,BD g h,rfl,xQ g⟩
theorem BE {r:Rw}:r.t.cps.toList≠[]:=by
 unfold Rw.t jw;rw[e7,kS];intro h;have:jn 32 (r.ws.map (·.cps.toList))=(Str.ofString (toString r.h)).cps.toList++32::jn 32 (r.kind.cps.toList::(iI r.L).map (·.cps.toList)):=rfl;rw[this]at h;simp at h
theorem HP {c:Nat}:∀ {l:List (List Nat)},jn c l=[]->∀x∈l,x=[]
 |[],_,_,h=>by cases h
 |[a],e,x,h=>by rw[uU h];exact e
 |a::b::r,e,_,_=>by
  have e:a++c::jn c (b::r)=[]:=e;simp at e
noncomputable def iJ (Ls:List (Str×D)):Str:=Txt.join ⟨#[10]⟩ (Ls.map (·.1))
structure Lns (Ls:List (Str×D)):Prop where
 ok:∀x∈Ls,wv x.1 x.2
 len:Ls.length<=100
 ne:∃x∈Ls,x.1.cps.toList≠[]
section
variable {Ls:List (Str×D)}
theorem nX (g:Lns Ls):dn (.str ("\n" : PySem.Str)) (.lst ((Ls.map (·.1)).map .str))=some (.str (iJ Ls),false):=by
 rw[Fx];refine xH (k:=900) (by omega) ?_ (by rw[vI];have:=g.len;omega);intro u hu;obtain⟨r,hr,rfl⟩:=vO hu;exact(g.ok r hr).len
theorem xR (g:Lns Ls){X Z:FS}:ay (cY (bY (bw (fA aK (fV 0 (ag (fC (.ty "str")) al))))) X aJ) (ay (aP 1 (ot (bw (f2 ua (ah 0) (fS ""))) (f2 eZ (ah 0) (fS ("\n" : PySem.Str))) (fA aX al)))
  (ay (aP 2 (bP (cK (ah 1)) 1 [] (eC 0) cD (fA e5 (fV 0 al)))) Z)) [some (.str (iJ Ls),false),none,none]=Z [some (.str (iJ Ls),false),some (.lst ((Ls.map (·.1)).map .str),true),some (.lst (Ls.map (·.2)),true)]:=by
 have hl:=g.len;have e0:("" : Str)=⟨#[]⟩:=by decide +kernel
 have S4:(iJ Ls).length<=100000:=by
  refine vR (kC _ (Ls.map (·.1))) ?_;have h1:=qU (l:=Ls.map (·.1)) (k:=900) (by
   intro u hu;obtain⟨r,hr,rfl⟩:=vO hu;exact(g.ok r hr).len)
  rw[vI]at h1 ⊢;rw[dc];omega
 obtain⟨x,hx,S5⟩:=g.ne;have ye:¬iJ Ls=⟨#[]⟩:=by
  intro e;have e:=congrArg (λz:Str=>z.cps.toList) e;unfold iJ at e;rw[e7]at e;simp only[kS]at e;exact S5 (HP e _ (List.mem_map.mpr ⟨x.1,List.mem_map.mpr ⟨x,hx,rfl⟩,rfl⟩))
 have hs:Txt.split (iJ Ls) ⟨#[10]⟩=Ls.map (·.1):=nN (λe=>by rw[List.map_eq_nil_iff.mp e]at hx;cases hx) (by
  intro w hw;obtain⟨r,hr,rfl⟩:=vO hw;exact(g.ok r hr).nl)
 have e1:ot (bw (f2 ua (ah 0) (fS ""))) (f2 eZ (ah 0) (fS ("\n" : PySem.Str))) (fA aX al) [some (.str (iJ Ls),false),none,none]=some (.lst ((Ls.map (·.1)).map .str),true):=by
  have ht:bw (f2 ua (ah 0) (fS "")) [some (.str (iJ Ls),false),none,none]=some (!decide (iJ Ls=⟨#[]⟩)):=aO (b:=false) (ce (x:=.str (iJ Ls)) (y:=.str ⟨#[]⟩) (b1:=false) (b2:=false) rfl (by rw[e0];rfl) (by simp));refine nP (ht.trans (by rw[decide_eq_false ye];rfl)) (ce (x:=.str (iJ Ls)) (y:=.str ⟨#[10]⟩) (b1:=false) (b2:=false) rfl (by rw[Fx];rfl) ?_);have:0<(⟨#[10]⟩:Str).length/\(iJ Ls).length<=100000:=⟨by rw[dc];omega,S4⟩;simp only[eZ,if_pos this,hs]
 refine ar (cr (p:=true) (by simp)) (gQ (ds:=(Ls.map (·.1)).map .str) e1 (bM _) (gQ (ds:=Ls.map (·.2)) ?_ (dL (by
  intro d hd;obtain⟨x,hx,rfl⟩:=vO hd;exact(g.ok x hx).flat)) rfl))
 rw[uP];refine fw (fi:=cK (ah 1)) (nT:=1) (cap:=[]) (tg:=eC 0) (fe:=fA e5 (ag (ah 0) al)) (ρ:=[some (.str (iJ Ls),false),some (.lst (Ls.map (D.str ∘ (·.1))),true),none]) Ls (λx=>.str x.1) (λx=>x.2) (by simp) (by omega) λr hr=>?_;exact⟨_,rfl,false,am (ds:=[.str r.1]) rfl (g.ok r hr).row⟩
theorem HQ (g:Lns Ls){ρ:DL.Env}(e:ρ[2]? = some (some (.lst (Ls.map (·.2)),true))):bw (f2 Fp (fC .non) (ah 2)) ρ=some ((Ls.map (·.2)).any ci):=by
 have h1:(Ls.map (·.2)).all Fo=true:=by rw[List.all_eq_true];intro d hd;obtain⟨r,hr,rfl⟩:=vO hd;exact(g.ok r hr).nt
 exact aO (b:=false) (ce (x:=.non) (y:=.lst (Ls.map (·.2))) (b1:=false) (b2:=false) rfl (by simp[e]) (by simp only[Fp,if_pos h1]))
theorem qY {X Z:FS}(g:Lns Ls):(ay (cY (bw (f2 Fp (fC .non) (ah 2))) X aJ) Z) [some (.str (iJ Ls),false),some (.lst ((Ls.map (·.1)).map .str),true),some (.lst (Ls.map (·.2)),true)]=if(Ls.map (·.2)).any ci=true then ay X Z [some (.str (iJ Ls),false),some (.lst ((Ls.map (·.1)).map .str),true),some (.lst (Ls.map (·.2)),true)]else Z [some (.str (iJ Ls),false),some (.lst ((Ls.map (·.1)).map .str),true),some (.lst (Ls.map (·.2)),true)]:=by
 have e:=HQ g (ρ:=[some (.str (iJ Ls),false),some (.lst ((Ls.map (·.1)).map .str),true),some (.lst (Ls.map (·.2)),true)]) rfl;cases h:(Ls.map (·.2)).any ci with
 |true=>
  rw[h]at e;rw[if_pos rfl];unfold ay cY;simp only[e]
 |false=>
  rw[h]at e;rw[if_neg (by decide)];exact ar e rfl
theorem HR (g:Lns Ls)(h:(Ls.map (·.2)).any ci=true):l5 [.str (iJ Ls)]=some (.int ((Ls.map (·.2)).findIdx ci:Nat),false):=by
 have h1:(Ls.map (·.2)).all Fo=true:=by rw[List.all_eq_true];intro d hd;obtain⟨r,hr,rfl⟩:=vO hd;exact(g.ok r hr).nt
 have h2:(Ls.map (·.2)).findIdx ci<(Ls.map (·.2)).length:=List.findIdx_lt_length.mpr (List.any_eq_true.mp h);refine kR rfl ((xR g).trans ((qY g).trans ?_));rw[if_pos h];have:aI (f2 Bf (ah 2) (fC .non)) [some (.str (iJ Ls),false),some (.lst ((Ls.map (·.1)).map .str),true),some (.lst (Ls.map (·.2)),true)]=some (.rt (.int ((Ls.map (·.2)).findIdx ci:Nat)) false):=aE (ce (x:=.lst (Ls.map (·.2))) (y:=.non) (b1:=false) (b2:=false) rfl rfl (by simp only[Bf,if_pos (And.intro h1 h2)]));unfold ay;rw[this]
theorem HS (g:Lns Ls)(h:(Ls.map (·.2)).any ci=false):l5 [.str (iJ Ls)]=none:=by
 have:gT [some (.str (iJ Ls),false),none,none]=none:=(xR g).trans ((qY g).trans (by rw[h];rfl));show iC gT 1 2 [.str (iJ Ls)]=none;unfold iC;rw[if_pos (show [D.str (iJ Ls)].length=1 from rfl)];show(match gT [some (.str (iJ Ls),false),none,none] with|some (.rt d b)=>some (d,b)|_=>none)=none;rw[this]
theorem NF (g:Lns Ls)(h:(Ls.map (·.2)).any ci=false){d:D}(e:cL [.lst (Ls.map (·.2))]=some (d,false)):vk [.str (iJ Ls)]=some (d,false) :=
 kR rfl ((xR g).trans ((qY g).trans (by rw[h,if_neg (by decide)];exact aE (am (ds:=[.lst (Ls.map (·.2))]) rfl e))))
theorem NG (g:Lns Ls)(h:(Ls.map (·.2)).any ci=false){d:D}(e:dD [.lst (Ls.map (·.2))]=some (d,false)):jQ [.str (iJ Ls)]=some (d,false) :=
 au rfl ((xR g).trans ((qY g).trans (by rw[h,if_neg (by decide)];exact aE (am (ds:=[.lst (Ls.map (·.2))]) rfl e))))
theorem Em (g:Lns Ls)(h:(Ls.map (·.2)).any ci=true):aU [.str (iJ Ls)]=some (.tup [.str "text",.int ((Ls.map (·.2)).findIdx ci:Nat)],false):=by
 unfold aU;dsimp only;rw[HR g h]
theorem qZ (g:Lns Ls)(h:(Ls.map (·.2)).any ci=false){n:Nat}(e:cL [.lst (Ls.map (·.2))]=some (.int n,false)):aU [.str (iJ Ls)]=some (.tup [.str "row",.int n],false):=by
 unfold aU;dsimp only;rw[HS g h,NF g h e];rfl
end
theorem En {d:D}(h:aK [d,.ty "str"]=some (.bl false,false)):aU [d]=some (.tup [.str "text",.non],false):=by
 have:l5 [d]=some (.non,false):=kR rfl (bL (cr (p:=false) (aO (b:=false) (am (ds:=[d,.ty "str"]) rfl h))) (aE rfl));unfold aU;dsimp only;rw[this]
noncomputable abbrev sF (d:D):OB:=some (d,false)
noncomputable abbrev lT (ds:List D):OB:=some (.lst ds,true)
theorem zi (a:Int){m:Int}(h:0<m):dr (.int a) (.int m)=some (.int (a % m),false):=by simp[h]
theorem HU (a:Int){m:Int}(h:0<m)(h2:m<1073741824):iN (.int a) (.int m)=some (.int (a / m),false):=by simp[h,h2]
theorem im {f:FE}{ρ:DL.Env}{a m:Int}(e:f ρ=sF (.int a))(h:0<m):f2 dr f (fI m) ρ=sF (.int (a % m)):=dZ (.int a) (.int m) e rfl (zi a h)
theorem HV {f:FE}{ρ:DL.Env}{a m:Int}(e:f ρ=sF (.int a))(h:0<m)(h2:m<1073741824):f2 iN f (fI m) ρ=sF (.int (a / m)):=dZ (.int a) (.int m) e rfl (HU a h h2)
theorem we (a:Int){b:Int}(h : -1000000<=b/\b<=1000000):jy (.int a) (.int b)=some (.int (a*b),false):=by
 have : -18446744073709551616<b/\b<18446744073709551616:=by omega
 simp[this]
theorem ra {k:Int}(h : -1000000000000<=k/\k<=1000000000000):Builtin.Int.intBits k<=64:=intBits_le_64 (by omega) (by omega)
theorem mw {ns:List Int}(hf:Kz ns)(k:Nat)(hk:k<=100):∃c:Int,e6 [.lst (ns.map .int),.int k]=sF (.int c):=by
 have bC:∀ρ:DL.Env,ρ[0]? = some (sF (.lst (ns.map .int)))->fA bS (fV 0 al) ρ=sF (.int ns.length):=λρ h=>by
  refine lZ [.lst (ns.map .int)] (sY (by simp[h]) rfl) ?_;rw[ip,vI]
 have gY:∀v:Int,Builtin.Int.intBits v<=2097152->aI (f2 dr (f2 Hg (ah 2) (ah 2)) (fI 2147483497)) [sF (.lst (ns.map .int)),sF (.int k),sF (.int v)]=some (.rt (.int (v*v % 2147483497)) false):=λv hv=>
  aE (im (dZ (.int v) (.int v) rfl rfl (by simp[hv])) (by decide))
 by_cases h:k<ns.length
 ·refine⟨ns.getD k 0,au rfl (bL (vj (dZ (.int k) (.int ns.length) rfl (bC _ rfl) (by simp;omega))) (aE (dZ (.lst (ns.map .int)) (.int k) rfl rfl ?_)))⟩;have:=xy (xs:=ns) (i:=k) (by omega) (by simpa using h);rw[Int.toNat_natCast]at this;exact this
 ·have S6:Builtin.Int.intBits (50021*(k:Int)+29)<=64:=ra (by omega);have e0:f2 aF (f2 jy (fI 50021) (ah 1)) (fI 29) [sF (.lst (ns.map .int)),sF (.int k),none]=sF (.int (50021*k+29)):=dZ (.int (50021*k)) (.int 29) (dZ (.int 50021) (.int k) rfl rfl (we _ (by omega))) rfl rfl;have t1:bw (f2 Fb (ah 1) (fA bS (fV 0 al))) [sF (.lst (ns.map .int)),sF (.int k),none]=some false:=vj (dZ (.int k) (.int ns.length) rfl (bC _ rfl) (by simp;omega));by_cases hz:0<ns.length
  ·have MB:(0:Int)<ns.length:=by omega
   have h5:=mod_lt (x:=(k:Int)*19) MB;obtain⟨j,hj⟩:∃j:Nat,(k:Int)*19 % ns.length=j:=⟨((k:Int)*19 % ns.length).toNat,by omega⟩;have OS:j<ns.length:=by omega
   have hb:Builtin.Int.intBits (ns.getD j 0)<=1048576:=hf _ (by rw[List.getD_eq_getElem?_getD,vU OS];exact List.getElem_mem OS);have ei:f2 eE (ah 0) (f2 dr (f2 jy (ah 1) (fI 19)) (fA bS (fV 0 al))) [sF (.lst (ns.map .int)),sF (.int k),sF (.int (50021*k+29))]=sF (.int (ns.getD j 0)):=by
    refine dZ (.lst (ns.map .int)) (.int j) rfl (hj ▸ dZ (.int (k*19)) (.int ns.length) (dZ (.int k) (.int 19) rfl rfl (we _ (by decide))) (bC _ rfl) (zi _ MB)) ?_;have:=xy (xs:=ns) (i:=j) (by omega) (by simpa using OS);rw[Int.toNat_natCast]at this;exact this
   generalize ns.getD j 0=x at hb ei;have S7:(k:Int)*k<=10000/\0<=(k:Int)*k:=by
    have h1:k*k<=100*100:=Nat.mul_le_mul hk hk;rw[←Int.natCast_mul];omega
   have ev:f2 aF (f2 aF (f2 jy (f2 eE (ah 0) (f2 dr (f2 jy (ah 1) (fI 19)) (fA bS (fV 0 al)))) (fI 48271)) (f2 jy (f2 jy (ah 1) (ah 1)) (fI 5003))) (fI 11) [sF (.lst (ns.map .int)),sF (.int k),sF (.int (50021*k+29))]=sF (.int (x*48271+k*k*5003+11)) :=
    dZ (.int (x*48271+k*k*5003)) (.int 11) (dZ (.int (x*48271)) (.int (k*k*5003)) (dZ (.int x) (.int 48271) ei rfl (we _ (by decide))) (dZ (.int (k*k)) (.int 5003) (dZ (.int k) (.int k) rfl rfl (we _ (by omega))) rfl (we _ (by decide))) rfl) rfl rfl
   generalize (k:Int)*k=y at S7 ev;have S8:Builtin.Int.intBits (x*48271+y*5003+11)<=2097152:=by
    have h1:=intBits_mul_le hb (ra (k:=48271) (by decide));have h2:=intBits_add_le h1 (ra (k:=y*5003) (by omega));have h3:=intBits_add_le h2 (ra (k:=11) (by decide));exact vR h3 (by decide)
   exact⟨_,au rfl (ar t1 (DT (.int (50021*k+29)) e0 rfl (iD (yS (vj (dZ (.int ns.length) (.int 0) (bC _ rfl) rfl (by simp;omega))) (Bk ev rfl)) (gY _ S8))))⟩
  ·refine⟨_,au rfl (ar t1 (DT (.int (50021*k+29)) e0 rfl (iD (Bj (vj (dZ (.int ns.length) (.int 0) (bC _ rfl) rfl (by rw[show(ns.length:Int)=0 by omega];rfl))) rfl) (gY (50021*k+29) (vR S6 (by decide))))))⟩
theorem HW {ρ:DL.Env}{i n:Nat}{ds:List D}{fk fv:FE}{d:D}{b b':Bool}(e:ρ[i]? = some (some (.lst ds,true)))(ev:fv ρ=some (d,b))(ek:fk ρ=some (.int n,b'))(hn:n<ds.length)(hf:b9 d=true):A2 i fk fv ρ=some (.nx (ρ.set i (some (.lst (ds.set n d),true)))):=by
 have hx:zW ds.length (n:Int)=some n:=by
  unfold zW;rw[if_pos (by omega)];simp[hn]
 simp only[A2,e,ev,ek,vJ,hx,if_pos hf]
theorem tT (x:Int):0<=x % 26/\x % 26<26:=mod_lt (by decide)
noncomputable def iG:PySem.Str:="abcdefghijklmnopqrstuvwxyz"
theorem qj:iG.cps.size=26:=by decide +kernel
def Cu (x:Int):Nat:=iG.cps.toList.getD (x % 26).toNat 0
theorem BF (x:Int):eE (.str iG) (.int (x % 26))=sF (.str ⟨#[Cu x]⟩):=DL.m8 (tT x).1 (by rw[qj];have:=tT x;omega) (by decide +kernel)
theorem BG:∀i:_root_.Fin 26,g0 (iG.cps.toList.getD i.val 0)=true:=by decide +kernel
theorem BH:∀i j:_root_.Fin 26,iG.cps.toList.getD i.val 0=iG.cps.toList.getD j.val 0->i=j:=by decide +kernel
theorem xS (x:Int):g0 (Cu x)=true:=BG ⟨(x % 26).toNat,by have:=tT x;omega⟩
theorem Eo {x y:Int}(h:Cu x=Cu y):x % 26=y % 26:=by
 have hx:=tT x;have hy:=tT y;have:=BH ⟨(x % 26).toNat,by omega⟩ ⟨(y % 26).toNat,by omega⟩ h;injection this;omega
noncomputable def sg (cs:List Nat):List Str:=cs.map λc=>⟨#[c]⟩
theorem BI:∀cs:List Nat,((sg cs).map (·.length)).sum=cs.length
 |[]=>rfl
 |c::cs=>by
  show 1+((sg cs).map (·.length)).sum=cs.length+1;rw[BI cs];omega
theorem tU:∀(zs:List Str)(y:Str),(Str.join ("" : Str) (y::zs)).cps.toList=(y::zs).flatMap λz=>z.cps.toList
 |[],y=>by rw[List.flatMap_cons,List.flatMap_nil,uQ];rfl
 |z::r,y=>by
  have e3:∀a b:Str,(a++b).cps.toList=a.cps.toList++b.cps.toList:=λa b=>by show(a.cps++b.cps).toList=_;simp
  show(y++("" : Str)++Str.join ("" : Str) (z::r)).cps.toList=_;rw[e3,e3,tU r z,show("" : Str).cps.toList=[]from rfl,uQ];rfl
theorem BJ {zs:List Str}(h:zs≠[]):(Txt.join ("" : Str) zs).cps.toList=zs.flatMap λz=>z.cps.toList:=by
 cases zs with
 |nil=>exact absurd rfl h
 |cons y zs=>
  unfold Txt.join;rw[StrLaws.glued_eq_join];exact tU zs y
theorem wg {cs:List Nat}(h:cs≠[]):(Txt.join ("" : Str) (sg cs)).cps.toList=cs:=by
 rw[BJ (by simpa [sg]using h)];unfold sg;rw[List.flatMap_map];exact List.flatMap_singleton' cs
theorem KY {cs:List Nat}(h1:1<=cs.length)(h8:cs.length<=8)(hl:∀c∈cs,g0 c=true):cQ (Txt.join ("" : Str) (sg cs))=true:=by
 have e:=wg (cs:=cs) (λz=>by rw[z]at h1;cases h1);unfold cQ;rw[←gW,e,vD,vD,List.all_eq_true];exact⟨⟨decide_eq_true h1,decide_eq_true h8⟩,hl⟩
theorem Ep (cs:List Nat)(h:cs.length<=1000):dn (.str "") (.lst ((sg cs).map .str))=sF (.str (Txt.join ("" : Str) (sg cs))):=by
 show(fu ((sg cs).map .str)).bind _=_;rw[kQ];show(if _ then _ else _)=_;rw[BI,show("" : Str).length=0 from rfl,if_pos (by omega)]
theorem BK (c:Int):∃zs:List Str,l7 [.int c]=lT (zs.map .str)/\Nm6 zs:=by
 have h8:=mod_lt (x:=c) (m:=8) (by decide);obtain⟨n,hn⟩:∃n:Nat,1+c % 8=n:=⟨(1+c % 8).toNat,by omega⟩;let bs:List Nat:=(List.range n).map λ(k:Nat)=>Cu (c / (3+4*k));have MG:bs.length=n:=by simp[bs]
 have Oo:∀x∈bs,g0 x=true:=λx hx=>by obtain⟨k,_,rfl⟩:=vO hx;exact xS _
 have hb:=fw (fi:=da (f2 aF (fI 1) (f2 dr (ah 0) (fI 8)))) (nT:=1) (cap:=[1,0]) (tg:=eC 0) (fe:=f2 eE (ah 1) (f2 dr (f2 iN (ah 2) (f2 aF (fI 3) (f2 jy (fI 4) (ah 0)))) (fI 26)))
  (ρ:=[sF (.int c),sF (.str iG),none,none,none,none,none]) (List.range n) (λ(k:Nat)=>.int k) (λ(k:Nat)=>.str ⟨#[Cu (c / (3+4*k))]⟩)
  (by rw[fM (j:=n) (b:=false) (hn ▸ dZ (.int 1) (.int (c % 8)) rfl (im rfl (by decide)) rfl) (by omega),pB,uP];rfl) (by simp;omega) λk hk=>by
   have hk:=List.mem_range.mp hk;exact⟨_,rfl,false,dZ (.str iG) (.int (c / (3+4*k) % 26)) rfl (im (dZ (.int c) (.int (3+4*k)) rfl (dZ (.int 3) (.int (4*k)) rfl (dZ (.int 4) (.int k) rfl rfl (we _ (by omega))) rfl) (HU _ (by omega) (by omega))) (by decide)) (BF _)⟩
 have OA:(List.range n).map (λ(k:Nat)=>D.str ⟨#[Cu (c / (3+4*k))]⟩)=(sg bs).map .str:=by simp[sg,bs]
 rw[OA]at hb;have To:=mod_lt (x:=c / 8) (m:=n) (by omega);obtain⟨a,ha⟩:∃a:Nat,c / 8 % n=a:=⟨(c / 8 % n).toNat,by omega⟩;have OT:a<bs.length:=by omega
 let nm:Nat->List Nat:=λi=>bs.set a (Cu (c / 64+3*i));have MH:∀i,(nm i).length=n:=λi=>by simp[nm,MG]
 obtain⟨ρ',e,v5,v6,rfl⟩:=nj (tg:=eC 5) (g:=nG) 6 (λi ρ=>∃v5 v6:OB,ρ=[sF (.int c),sF (.str iG),lT ((sg bs).map .str),sF (.int a),lT (((List.range i).map λi=>Txt.join ("" : Str) (sg (nm i))).map .str),v5,v6])
  [sF (.int c),sF (.str iG),lT ((sg bs).map .str),sF (.int a),lT [],none,none] ⟨none,none,rfl⟩ (by
   rintro i ρ hi ⟨v5,v6,rfl⟩;have es:((sg bs).map D.str).set a (.str ⟨#[Cu (c / 64+3*i)]⟩)=(sg (nm i)).map .str:=by simp only[sg,nm,uP,List.map_set,Function.comp]
   refine⟨_,_,rfl,.inl (gQ (ds:=(sg bs).map .str) (by simp) (bM _) (iD (HW (n:=a) (ds:=(sg bs).map .str) (d:=.str ⟨#[Cu (c / 64+3*i)]⟩) (b:=false) (b':=false) rfl ?_ rfl (by simpa [sg]using OT) rfl) (vi (d:=.str (Txt.join ("" : Str) (sg (nm i)))) (b:=false) rfl ?_ rfl (io (by simp;omega))))),some (.int i,false),some (.lst ((sg (nm i)).map .str),true),?_⟩
   ·exact dZ (.str iG) (.int ((c / 64+3*i) % 26)) rfl (im (dZ (.int (c / 64)) (.int (3*i)) (HV rfl (by decide) (by decide)) (dZ (.int 3) (.int i) rfl rfl (we _ (by omega))) rfl) (by decide)) (BF _)
   ·rw[es];exact dZ (.str "") (.lst ((sg (nm i)).map .str)) rfl rfl (Ep _ (by rw[MH];omega))
   ·rw[es,List.range_succ];simp)
 refine⟨(List.range 6).map λi=>Txt.join ("" : Str) (sg (nm i)),au rfl (DT (.str iG) rfl rfl (gQ hb (bM _) (DT (.int a) ?_ rfl (gQ (ds:=[]) (by simp[sizeLine]) rfl (iD (nu (fM (j:=6) (b:=false) rfl (by decide)) e) (xu rfl)))))),by simp,?_,λz hz=>?_⟩
 ·rw[←ha];refine dZ (.int (c / 8)) (.int n) (HV rfl (by decide) (by decide)) ?_ (zi _ (by omega));refine lZ [.lst ((sg bs).map .str)] (sY rfl rfl) ?_;rw[ip];simp[sg,MG]
 ·refine List.pairwise_map.mpr (List.Pairwise.imp_of_mem ?_ (List.nodup_range (n:=6)));intro i j hi hj hij e;have e:=congrArg (λz:Str=>z.cps.toList) e;have e:nm i=nm j:=by
   have h1:∀i,nm i≠[]:=λi z=>by have:=MH i;rw[z]at this;simp at this;omega
   simpa only[wg (h1 i),wg (h1 j)]using e
  have e:=congrArg (λl:List Nat=>l[a]?) e;simp only[nm,List.getElem?_set_self OT,Option.some.injEq]at e;have:=Eo e;have hi:=List.mem_range.mp hi;have hj:=List.mem_range.mp hj;omega
 ·obtain⟨i,_,rfl⟩:=vO hz;refine KY (by rw[MH];omega) (by rw[MH];omega) λx hx=>?_;rcases List.mem_or_eq_of_mem_set hx with h|h
  ·exact Oo x h
  ·rw[h];exact xS _
noncomputable def jj (zs:List Str)(i:Int):Str:=zs.getD i.toNat ""
theorem jx {zs:List Str}(nm:Nm6 zs){i:Int}(h:i<6):jj zs i∈zs:=by
 have:=nm.len;unfold jj;rw[List.getD_eq_getElem?_getD,vU (by omega)];exact List.getElem_mem _
theorem tV {zs:List Str}(nm:Nm6 zs){i:Int}(h0:0<=i)(h:i<6):eE (.lst (zs.map .str)) (.int i)=sF (.str (jj zs i)):=by
 have hl:=nm.len;rw[Bm h0 (by simp;omega)];congr 2;unfold jj;rw[List.getD_eq_getElem?_getD,List.getD_eq_getElem?_getD,vB,vU (show i.toNat<zs.length by omega)];rfl
theorem cJ (w v:Str)(r:List Str):jw (w::v::r)=w++(⟨#[32]⟩++jw (v::r)):=by
 rw[←bx];unfold jw;rw[e7,e7];rfl
theorem Er:("named " : Str)=("named" : Str)++⟨#[32]⟩:=by decide +kernel
theorem BL:("chosen " : Str)=("chosen" : Str)++⟨#[32]⟩:=by decide +kernel
theorem HY:("heir " : Str)=("heir" : Str)++⟨#[32]⟩:=by decide +kernel
theorem Es:("death " : Str)=("death" : Str)++⟨#[32]⟩:=by decide +kernel
theorem HZ:("lost " : Str)=("lost" : Str)++⟨#[32]⟩:=by decide +kernel
theorem Et:("found " : Str)=("found" : Str)++⟨#[32]⟩:=by decide +kernel
theorem Eu:("leave " : Str)=("leave" : Str)++⟨#[32]⟩:=by decide +kernel
theorem Ia:("copy " : Str)=("copy" : Str)++⟨#[32]⟩:=by decide +kernel
theorem Ev:("paper " : Str)=("paper" : Str)++⟨#[32]⟩:=by decide +kernel
theorem Ib:("call " : Str)=("call" : Str)++⟨#[32]⟩:=by decide +kernel
theorem Ic:("like " : Str)=("like" : Str)++⟨#[32]⟩:=by decide +kernel
theorem NH:(" ab 3 90 2" : PySem.Str)=⟨#[32]⟩++jw [qV 3,nS 3,nS 90,nS 2]:=by decide +kernel
theorem QG:(" 5" : PySem.Str)=⟨#[32]⟩++nS 5:=by decide +kernel
theorem NI:(" 59" : PySem.Str)=⟨#[32]⟩++nS 59:=by decide +kernel
theorem QH:(" c 0 - " : PySem.Str)=⟨#[32]⟩++(jw [qV 4,nS 0,uN none]++⟨#[32]⟩):=by decide +kernel
theorem Ie:(" of the king" : Str)=⟨#[32]⟩++jw [("of" : Str),("the" : Str),("king" : Str)]:=by decide +kernel
theorem NJ:(" gh 7 8 - 0 0 of 7 the" : PySem.Str)=⟨#[32]⟩++jw [qV 192,nS 7,nS 8,uS none,nS 0,nS 0,("of" : Str),nS 7,("the" : Str)]:=by decide +kernel
theorem Ew:("0 root " : PySem.Str)=jw [nS 0,("root" : Str)]++⟨#[32]⟩:=by decide +kernel
theorem KZ:(" abc 2 last" : PySem.Str)=⟨#[32]⟩++jw [qV 7,nS 2,("last" : Str)]:=by decide +kernel
theorem Ey:("7 root " : PySem.Str)=jw [nS 7,("root" : Str)]++⟨#[32]⟩:=by decide +kernel
theorem NK:(" a 0 open" : PySem.Str)=⟨#[32]⟩++jw [qV 1,nS 0,("open" : Str)]:=by decide +kernel
theorem BM:("9 found 9 " : PySem.Str)=jw [nS 9,("found" : Str),nS 9]++⟨#[32]⟩:=by decide +kernel
theorem Ez:("9 lost 1 z" : PySem.Str)=jw [nS 9,("lost" : Str),nS 1]++(⟨#[32]⟩++("z" : Str)):=by decide +kernel
structure LO (ps:List Str)(t:Str)(r:Rw):Prop where
 tx:t=r.t
 rl:∃ss,RL ss r.h r.kind r.L/\∀s∈ss,s∈ps
 ws:r.ws.length<=40
section
variable {d h:Int}{o a b:Str}(h0:0<=d) (hd:d<=h) (h9:h<=9999) (ho:cQ o=true) (ha:cQ a=true) (hb:cQ b=true)
include h0 hd h9 ho ha hb
def NL (d h:Int)(o a b:Str):List Str:=[("named " : Str)++nS d++(" " : Str)++o++(" " : Str)++a,("chosen " : Str)++nS d++(" " : Str)++a++(" " : Str)++o++(" " : Str)++b++(" " : Str)++nS h,
 ("heir " : Str)++nS d++(" " : Str)++a++(" " : Str)++o++(" " : Str)++b,("death " : Str)++nS d++(" " : Str)++a,("lost " : Str)++nS d++(" " : Str)++a,("found " : Str)++nS d++(" " : Str)++b,
 ("leave " : Str)++nS d++(" " : Str)++a++(" " : Str)++b++(" ab 3 90 2" : PySem.Str),("copy " : Str)++nS d++(" " : Str)++a++(" 5" : PySem.Str),("paper " : Str)++nS d++(" " : Str)++a++(" c 0 - " : PySem.Str)++b++(" of the king" : Str),
 ("call " : Str)++nS d++(" " : Str)++b++(" 59" : PySem.Str),("like " : Str)++nS d++(" " : Str)++a++(" gh 7 8 - 0 0 of 7 the" : PySem.Str)]
abbrev dy (d:Int):Pt:=pN ("day" : Str) d
abbrev qB (z:Str):Pt:=pT ("by" : Str) z
abbrev qP (z:Str):Pt:=pT ("person" : Str) z
abbrev qO (z:Str):Pt:=pT ("office" : Str) z
theorem Ig:∀t∈NL d h o a b,∃r:Rw,LO [a,b] (nS h++(" " : Str)++t) r/\bX r.d=false:=by
 have hD:=qX h0 (show d<=9999 by omega);have hH:=BA (show 0<=h by omega) h9;have no:∀ {L:List Pt}{kind:Str},decide (kind=("chosen" : Str))=false->kind=("chosen" : Str)->∃a b c s,L.map (·.v)=[a,b,c,.int s]/\d<=s:=λe e'=>absurd e' (of_decide_eq_false e);have two:∀s∈[a,b],s∈[a,b]:=λs h=>h;have one:∀s∈[a],s∈[a,b]:=by simp
 have LQ:∀s∈[b],s∈[a,b]:=by simp
 have nm:∀z∈[("of" : Str),("the" : Str),("king" : Str)],cQ z=true:=by decide +kernel
 unfold NL;simp only[List.forall_mem_cons];refine⟨?_,?_,?_,?_,?_,?_,?_,?_,?_,?_,?_,λ_ h=>nomatch h⟩
 ·refine⟨⟨h,("named" : Str),[dy d,qO o,qP a]⟩,⟨?_,⟨[a],xO (kind:=("named" : Str)) (parts:=[("day" : Str),("office" : Str),("person" : Str)]) (.cons hD (.cons (nU ho) (.cons (jD ha) .nil))) h0 hd h9 rfl (no (kind:=("named" : Str)) (by decide +kernel)),one⟩,Nat.le_of_ble_eq_true rfl⟩,(show decide (("named" : Str)=("root" : Str))=false by decide +kernel)⟩;show _=jw [nS h,("named" : Str),nS d,o,a];simp only[cJ,c9,Er,g9,bx]
 ·refine⟨⟨h,("chosen" : Str),[dy d,qB a,qO o,qP b,pN ("since" : Str) h]⟩,⟨?_,⟨[a,b],xO (kind:=("chosen" : Str)) (parts:=[("day" : Str),("by" : Str),("office" : Str),("person" : Str),("since" : Str)]) (.cons hD (.cons (nR ha) (.cons (nU ho) (.cons (jD hb) (.cons hH .nil))))) h0 hd h9 rfl (λ_=>⟨_,_,_,_,rfl,hd⟩),two⟩,Nat.le_of_ble_eq_true rfl⟩,(show decide (("chosen" : Str)=("root" : Str))=false by decide +kernel)⟩;show _=jw [nS h,("chosen" : Str),nS d,a,o,b,nS h];simp only[cJ,c9,BL,g9,bx]
 ·refine⟨⟨h,("heir" : Str),[dy d,qB a,qO o,qP b]⟩,⟨?_,⟨[a,b],xO (kind:=("heir" : Str)) (parts:=[("day" : Str),("by" : Str),("office" : Str),("person" : Str)]) (.cons hD (.cons (nR ha) (.cons (nU ho) (.cons (jD hb) .nil)))) h0 hd h9 rfl (no (kind:=("heir" : Str)) (by decide +kernel)),two⟩,Nat.le_of_ble_eq_true rfl⟩,(show decide (("heir" : Str)=("root" : Str))=false by decide +kernel)⟩;show _=jw [nS h,("heir" : Str),nS d,a,o,b];simp only[cJ,c9,HY,g9,bx]
 ·refine⟨⟨h,("death" : Str),[dy d,qP a]⟩,⟨?_,⟨[a],xO (kind:=("death" : Str)) (parts:=[("day" : Str),("person" : Str)]) (.cons hD (.cons (jD ha) .nil)) h0 hd h9 rfl (no (kind:=("death" : Str)) (by decide +kernel)),one⟩,Nat.le_of_ble_eq_true rfl⟩,(show decide (("death" : Str)=("root" : Str))=false by decide +kernel)⟩;show _=jw [nS h,("death" : Str),nS d,a];simp only[cJ,c9,Es,g9,bx]
 ·refine⟨⟨h,("lost" : Str),[dy d,qP a]⟩,⟨?_,⟨[a],xO (kind:=("lost" : Str)) (parts:=[("day" : Str),("person" : Str)]) (.cons hD (.cons (jD ha) .nil)) h0 hd h9 rfl (no (kind:=("lost" : Str)) (by decide +kernel)),one⟩,Nat.le_of_ble_eq_true rfl⟩,(show decide (("lost" : Str)=("root" : Str))=false by decide +kernel)⟩;show _=jw [nS h,("lost" : Str),nS d,a];simp only[cJ,c9,HZ,g9,bx]
 ·refine⟨⟨h,("found" : Str),[dy d,qP b]⟩,⟨?_,⟨[b],xO (kind:=("found" : Str)) (parts:=[("day" : Str),("person" : Str)]) (.cons hD (.cons (jD hb) .nil)) h0 hd h9 rfl (no (kind:=("found" : Str)) (by decide +kernel)),LQ⟩,Nat.le_of_ble_eq_true rfl⟩,(show decide (("found" : Str)=("root" : Str))=false by decide +kernel)⟩;show _=jw [nS h,("found" : Str),nS d,b];simp only[cJ,c9,Et,g9,bx]
 ·refine⟨⟨h,("leave" : Str),[dy d,qB a,qP b,pM 3,pS 3 (some 90),pN ("further" : Str) 2]⟩,⟨?_,⟨[a,b],xO (kind:=("leave" : Str)) (parts:=[("day" : Str),("by" : Str),("person" : Str),("matters" : Str),("stretch" : Str),("further" : Str)]) (.cons hD (.cons (nR ha) (.cons (jD hb) (.cons (nW (by decide) (by decide)) (.cons (wd ⟨by decide,by decide,λt e=>by cases e;decide⟩) (.cons (jU (by decide) (by decide)) .nil)))))) h0 hd h9 rfl (no (kind:=("leave" : Str)) (by decide +kernel)),two⟩,Nat.le_of_ble_eq_true rfl⟩,(show decide (("leave" : Str)=("root" : Str))=false by decide +kernel)⟩;show _=jw [nS h,("leave" : Str),nS d,a,b,qV 3,nS 3,nS 90,nS 2];simp only[cJ,c9,Eu,NH,g9,bx]
 ·refine⟨⟨h,("copy" : Str),[dy d,qB a,pN ("of" : Str) 5]⟩,⟨?_,⟨[a],xO (kind:=("copy" : Str)) (parts:=[("day" : Str),("by" : Str),("of" : Str)]) (.cons hD (.cons (nR ha) (.cons (BB (by decide) (by decide)) .nil))) h0 hd h9 rfl (no (kind:=("copy" : Str)) (by decide +kernel)),one⟩,Nat.le_of_ble_eq_true rfl⟩,(show decide (("copy" : Str)=("root" : Str))=false by decide +kernel)⟩;show _=jw [nS h,("copy" : Str),nS d,a,nS 5];simp only[cJ,c9,Ia,QG,g9,bx]
 ·refine⟨⟨h,("paper" : Str),[dy d,qB a,pM 4,pS 0 none,pW (some b),pP [("of" : Str),("the" : Str),("king" : Str)]]⟩,⟨?_,⟨[a,b],xO (kind:=("paper" : Str)) (parts:=[("day" : Str),("by" : Str),("matters" : Str),("stretch" : Str),("whom" : Str),("pieces" : Str)]) (.cons hD (.cons (nR ha) (.cons (nW (by decide) (by decide)) (.cons (wd ⟨by decide,by decide,λt e=>by cases e⟩) (.cons (HK hb) (.cons (HL (by decide) (by decide) nm) .nil)))))) h0 hd h9 rfl (no (kind:=("paper" : Str)) (by decide +kernel)),two⟩,Nat.le_of_ble_eq_true rfl⟩,(show decide (("paper" : Str)=("root" : Str))=false by decide +kernel)⟩;show _=jw [nS h,("paper" : Str),nS d,a,qV 4,nS 0,uN none,b,("of" : Str),("the" : Str),("king" : Str)];simp only[cJ,c9,Ev,QH,Ie,g9,bx]
 ·refine⟨⟨h,("call" : Str),[dy d,qB b,pN ("of" : Str) 59]⟩,⟨?_,⟨[b],xO (kind:=("call" : Str)) (parts:=[("day" : Str),("by" : Str),("of" : Str)]) (.cons hD (.cons (nR hb) (.cons (BB (by decide) (by decide)) .nil))) h0 hd h9 rfl (no (kind:=("call" : Str)) (by decide +kernel)),LQ⟩,Nat.le_of_ble_eq_true rfl⟩,(show decide (("call" : Str)=("root" : Str))=false by decide +kernel)⟩;show _=jw [nS h,("call" : Str),nS d,b,nS 59];simp only[cJ,c9,Ib,NI,g9,bx]
 ·refine⟨⟨h,("like" : Str),[dy d,qB a,pM 192,pS 7 (some 8),pW none,pN ("of" : Str) 0,pC [(0,("of" : Str)),(7,("the" : Str))]]⟩,⟨?_,⟨[a],xO (kind:=("like" : Str)) (parts:=[("day" : Str),("by" : Str),("matters" : Str),("stretch" : Str),("whom" : Str),("of" : Str),("changes" : Str)]) (.cons hD (.cons (nR ha) (.cons (nW (by decide) (by decide)) (.cons (wd ⟨by decide,by decide,λt e=>by cases e;decide⟩) (.cons KU (.cons (BB (by decide) (by decide)) (.cons (HM ⟨by decide +kernel,by simp,by decide⟩) .nil))))))) h0 hd h9 rfl (no (kind:=("like" : Str)) (by decide +kernel)),one⟩,Nat.le_of_ble_eq_true rfl⟩,(show decide (("like" : Str)=("root" : Str))=false by decide +kernel)⟩;show _=jw [nS h,("like" : Str),nS d,a,qV 192,nS 7,nS 8,uS none,nS 0,nS 0,("of" : Str),nS 7,("the" : Str)];simp only[cJ,c9,Ic,NJ,g9,bx]
end
theorem zj:bf [.str "rule",.str "last"]=some (.bl true,false):=bT (by decide +kernel)
theorem zk:bf [.str "rule",.str "open"]=some (.bl true,false):=bT (by decide +kernel)
def BN (o:Str):Rw:=⟨0,("root" : Str),[qO o,pM 7,pN ("further" : Str) 2,pT ("rule" : Str) ("last" : Str)]⟩
def uc (o:Str):Rw:=⟨7,("root" : Str),[qO o,pM 1,pN ("further" : Str) 0,pT ("rule" : Str) ("open" : Str)]⟩
def rb (z:Str):Rw:=⟨9,("found" : Str),[dy 9,qP z]⟩
def E1 (z:Str):Rw:=⟨9,("lost" : Str),[dy 1,qP z]⟩
theorem F4 {o:Str}(ho:cQ o=true){ps:List Str}:LO ps (("0 root " : PySem.Str)++o++(" abc 2 last" : PySem.Str)) (BN o):=by
 refine⟨?_,⟨[],ND (h:=0) (kind:=("root" : Str)) (parts:=[("office" : Str),("matters" : Str),("further" : Str),("rule" : Str)]) (.cons (nU ho) (.cons (nW (by decide) (by decide)) (.cons (jU (by decide) (by decide)) (.cons (xM zj (by decide +kernel)) .nil)))) (by decide) (by decide) rfl (.inl ⟨rfl,_,_,rfl⟩),by simp⟩,Nat.le_of_ble_eq_true rfl⟩;show _=jw [nS 0,("root" : Str),o,qV 7,nS 2,("last" : Str)];simp only[cJ,c9,Ew,KZ,bx]
theorem xT {o:Str}(ho:cQ o=true){ps:List Str}:LO ps (("7 root " : PySem.Str)++o++(" a 0 open" : PySem.Str)) (uc o):=by
 refine⟨?_,⟨[],ND (h:=7) (kind:=("root" : Str)) (parts:=[("office" : Str),("matters" : Str),("further" : Str),("rule" : Str)]) (.cons (nU ho) (.cons (nW (by decide) (by decide)) (.cons (jU (by decide) (by decide)) (.cons (xM zk (by decide +kernel)) .nil)))) (by decide) (by decide) rfl (.inl ⟨rfl,_,_,rfl⟩),by simp⟩,Nat.le_of_ble_eq_true rfl⟩;show _=jw [nS 7,("root" : Str),o,qV 1,nS 0,("open" : Str)];simp only[cJ,c9,Ey,NK,bx]
theorem BO {z:Str}(hz:cQ z=true):LO [z] (("9 found 9 " : PySem.Str)++z) (rb z):=by
 refine⟨?_,⟨[z],xO (h:=9) (kind:=("found" : Str)) (parts:=[("day" : Str),("person" : Str)]) (.cons (qX (by decide) (by decide)) (.cons (jD hz) .nil)) (by decide) (by decide) (by decide) rfl (λe=>absurd e (of_decide_eq_false (show decide (("found" : Str)=("chosen" : Str))=false by decide +kernel))),by simp⟩,Nat.le_of_ble_eq_true rfl⟩;show _=jw [nS 9,("found" : Str),nS 9,z];simp only[cJ,c9,BM,bx]
theorem xU {y:Str}(hz:cQ (("z" : Str)++y)=true):LO [("z" : Str)++y] (("9 lost 1 z" : PySem.Str)++y) (E1 (("z" : Str)++y)):=by
 refine⟨?_,⟨[("z" : Str)++y],xO (h:=9) (kind:=("lost" : Str)) (parts:=[("day" : Str),("person" : Str)]) (.cons (qX (by decide) (by decide)) (.cons (jD hz) .nil)) (by decide) (by decide) (by decide) rfl (λe=>absurd e (of_decide_eq_false (show decide (("lost" : Str)=("chosen" : Str))=false by decide +kernel))),by simp⟩,Nat.le_of_ble_eq_true rfl⟩;show _=jw [nS 9,("lost" : Str),nS 1,("z" : Str)++y];simp only[cJ,c9,Ez,bx]
theorem re (x y:Str):(x++y).length=x.length+y.length:=by
 show(x.cps++y.cps).size=_;rw[Array.size_append];rfl
def SL (n:Nat)(f:FE)(ρ:DL.Env)(x:Str):Prop:=f ρ=some (.str x,false)/\x.length<=n
section
variable {n m i:Nat}{f g:FE}{ρ:DL.Env}{x y:Str}{b:Bool}
theorem SL.add (hf:SL n f ρ x)(hg:SL m g ρ y)(h:n+m<=1000:=by exact Nat.le_of_ble_eq_true rfl):SL (n+m) (f2 aF f g) ρ (x++y):=by
 have h1:=hf.2;have h2:=hg.2;refine⟨dZ (.str x) (.str y) hf.1 hg.1 ?_,by rw[re];omega⟩;have:x.length+y.length<=sizeLine:=dC (by omega);simp only[aF,if_pos this]
theorem SL.c (h:decide (x.length<=30)=true:=by decide +kernel):SL 30 (fS x) ρ x:=⟨rfl,of_decide_eq_true h⟩
theorem SL.v (e:ρ[i]? = some (some (.str x,b)))(h:x.length<=n):SL n (ah i) ρ x:=⟨by simp[e],h⟩
theorem SL.l (h:SL n f ρ x){fa:FA}{ds:List D}(e:fa ρ=some ds):ag f fa ρ=some (.str x::ds):=sY h.1 e
end
theorem i7 {z:Str}(h:cQ z=true):z.length<=20:=(jC h).1.2.2
theorem nY {d:Int}(h0:0<=d)(h9:d<=9999):(nS d).length<=20:=(ji h0 h9).2.2
theorem jV (ts us:List Str){ρ:DL.Env}{fx fy:FE}{b b':Bool}(ex:fx ρ=some (.lst (ts.map .str),b))(ey:fy ρ=some (.lst (us.map .str),b'))(h:ts.length+us.length<=100:=by exact Nat.le_of_ble_eq_true rfl):f2 aF fx fy ρ=lT ((ts++us).map .str):=ce ex ey (by
 have:(ts.map D.str).length+(us.map D.str).length<=sizeLine:=dC (by rw[vI,vI];omega);simp only[aF,if_pos this,List.map_append])
theorem zm {ts:List Str}{ρ:DL.Env}{fa:FA}(e:fa ρ=some (ts.map .str))(h:ts.length<=100:=by exact Nat.le_of_ble_eq_true rfl):fA aX fa ρ=lT (ts.map .str):=am e (by
 have:(ts.map D.str).length<=sizeLine:=dC (by rw[vI];omega);simp only[aX,if_pos this])
theorem rh {ts:List Str}{i:Nat}{f:FE}{h:FS}{ρ:DL.Env}{r:Option Res}(e:f ρ=lT (ts.map .str))(k:h (ρ.set i (some (.lst (ts.map .str),true)))=r):ay (aP i f) h ρ=r:=gQ e (bM _) k
theorem La {x:Str}{n i:Nat}{f:FE}{h:FS}{ρ:DL.Env}{r:Option Res}(e:SL n f ρ x)(k:h (ρ.set i (some (.str x,false)))=r):ay (aP i f) h ρ=r:=iV e.1 rfl k
theorem nZ {zs:List Str}(nm:Nm6 zs){i:Int}(h0:0<=i)(h:i<4):jj zs i∈zs.take 4:=by
 have:=nm.len;unfold jj;rw[List.getD_eq_getElem?_getD,vU (by omega)];exact List.mem_take_iff_getElem.mpr ⟨i.toNat,by omega,rfl⟩
theorem E2 {zs:List Str}(nm:Nm6 zs){c:Int}{k:Nat}(h1:1<=k)(S9:k<=11):∃r:Rw,nH [.int k,.int c,.lst (zs.map .str)]=some (.str r.t,false)/\LO (zs.take 4) r.t r/\bX r.d=false:=by
 have Tp:=mod_lt (x:=c) (m:=40) (by decide);have m5:=mod_lt (x:=c / 40) (m:=5) (by decide);have m1:=mod_lt (x:=c / 7) (m:=4) (by decide);have m2:=mod_lt (x:=c / 11) (m:=4) (by decide);have ho:=nm.nm _ (jx nm (i:=4) (by decide));have ha:=nm.nm _ (jx nm (i:=c / 7 % 4) (by omega));have hb:=nm.nm _ (jx nm (i:=c / 11 % 4) (by omega));obtain⟨o,eo⟩:∃z,jj zs 4=z:=⟨_,rfl⟩;obtain⟨a,ea⟩:∃z,jj zs (c / 7 % 4)=z:=⟨_,rfl⟩;obtain⟨b,eb⟩:∃z,jj zs (c / 11 % 4)=z:=⟨_,rfl⟩;obtain⟨d,ed⟩:∃z,c % 40=z:=⟨_,rfl⟩;obtain⟨h,eh⟩:∃z,d+c / 40 % 5=z:=⟨_,rfl⟩;rw[eo]at ho;rw[ea]at ha;rw[eb]at hb;have SA:a∈zs.take 4:=ea ▸ nZ nm m1.1 m1.2;have SD:b∈zs.take 4:=eb ▸ nZ nm m2.1 m2.2;have d0:0<=d/\d<=9999:=by omega
 have hh:0<=h/\h<=9999:=by omega
 have s3:SL 20 (fA iT (ag (f2 dr (ah 1) (fI 40)) al)) [sF (.int k),sF (.int c),sF (.lst (zs.map .str)),none,none,none,none,none,none] (nS d):=⟨lZ [.int d] (sY (ed ▸ im rfl (by decide)) rfl) (mv d0.1 d0.2),nY d0.1 d0.2⟩;have s4:SL 20 (fA iT (ag (f2 aF (f2 dr (ah 1) (fI 40)) (f2 dr (f2 iN (ah 1) (fI 40)) (fI 5))) al)) [sF (.int k),sF (.int c),sF (.lst (zs.map .str)),sF (.str (nS d)),none,none,none,none,none] (nS h):=⟨lZ [.int h] (sY (dZ (.int d) (.int (c / 40 % 5)) (ed ▸ im rfl (by decide)) (im (HV rfl (by decide) (by decide)) (by decide)) (by rw[←eh];rfl)) rfl) (mv hh.1 hh.2),nY hh.1 hh.2⟩;have s5:SL 20 (f2 eE (ah 2) (f2 dr (f2 iN (ah 1) (fI 7)) (fI 4))) [sF (.int k),sF (.int c),sF (.lst (zs.map .str)),sF (.str (nS d)),sF (.str (nS h)),none,none,none,none] a:=⟨dZ (.lst (zs.map .str)) (.int (c / 7 % 4)) rfl (im (HV rfl (by decide) (by decide)) (by decide)) (ea ▸ tV nm m1.1 (by omega)),i7 ha⟩;have s6:SL 20 (f2 eE (ah 2) (f2 dr (f2 iN (ah 1) (fI 11)) (fI 4))) [sF (.int k),sF (.int c),sF (.lst (zs.map .str)),sF (.str (nS d)),sF (.str (nS h)),sF (.str a),none,none,none] b:=⟨dZ (.lst (zs.map .str)) (.int (c / 11 % 4)) rfl (im (HV rfl (by decide) (by decide)) (by decide)) (eb ▸ tV nm m2.1 (by omega)),i7 hb⟩;let E:OB->OB->DL.Env:=λx y=>[sF (.int k),sF (.int c),sF (.lst (zs.map .str)),sF (.str (nS d)),sF (.str (nS h)),sF (.str a),sF (.str b),x,y];have so:∀ {x y},SL 20 (eF 2 4) (E x y) o:=λ{x y}=>⟨dZ (.lst (zs.map .str)) (.int 4) rfl rfl (eo ▸ tV nm (by decide) (by decide)),i7 ho⟩;have sd:∀ {x y},SL 20 (ah 3) (E x y) (nS d):=λ{x y}=>.v rfl (nY d0.1 d0.2);have sh:∀ {x y},SL 20 (ah 4) (E x y) (nS h):=λ{x y}=>.v rfl (nY hh.1 hh.2);have sa:∀ {x y},SL 20 (ah 5) (E x y) a:=λ{x y}=>.v rfl (i7 ha);have sb:∀ {x y},SL 20 (ah 6) (E x y) b:=λ{x y}=>.v rfl (i7 hb);have sv:∀ {x y:OB}{ts:List Str},x=lT (ts.map .str)->ah 7 (E x y)=some (.lst (ts.map .str),false):=λ{x y ts} e=>by subst e;rfl
 let T0:Str:=("root " : Str)++o++(" adh 3 open" : PySem.Str);let A0:Str:=("chosen " : Str)++nS d++(" " : Str)++a++(" " : Str)++o;let G:=NL d h o a b;have hG:G.length=11:=rfl;have hk:k - 1<G.length:=by omega
 obtain⟨r,lo,nr⟩:=Ig d0.1 (show d<=h by omega) hh.2 ho ha hb G[k - 1] (List.getElem_mem hk);have bC:(nS h++(" " : Str)++G[k - 1]).length<=900:=by
  obtain⟨ss,g,_⟩:=lo.rl;rw[lo.tx];exact BD g lo.ws
 have hA:A0.length<=200:=by
  have l1:("chosen " : Str).length=7:=by decide +kernel
  have l2:(" " : Str).length=1:=by decide +kernel
  have:=i7 ha;have:=i7 ho;have:=nY d0.1 d0.2;simp only[A0,re,l1,l2];omega
 have gY:∀y,aI (f2 aF (f2 aF (ah 4) (fS " ")) (f2 eE (ah 7) (f2 dr (ah 0) (fI 12)))) (E (lT ((T0::G).map .str)) y)=some (.rt (.str (nS h++(" " : Str)++G[k - 1])) false):=λy=>by
  refine aE (dZ (.str (nS h++(" " : Str))) (.str G[k - 1]) (SL.add sh .c).1 (dZ (.lst ((T0::G).map .str)) (.int k) (sv rfl) ?_ ?_) ?_)
  ·have:=im (m:=12) (ρ:=E (lT ((T0::G).map .str)) y) (f:=ah 0) (a:=(k:Int)) rfl (by decide);rw[Int.emod_eq_of_lt (by omega) (by omega)]at this;exact this
  ·have:((T0::G).map D.str)[k]? = some (.str G[k - 1]):=by
    obtain⟨j,rfl⟩:∃j,k=j+1:=⟨k - 1,by omega⟩;rw[uZ,List.getElem?_cons_succ,vB,vU (show j<G.length by omega)];rfl
   generalize (T0::G).map D.str=q at this;simp[qT this]
  ·have:(nS h++(" " : Str)).length+G[k - 1].length<=sizeLine:=dC (by rw[←re];exact vR bC (by omega));simp only[aF,if_pos this]
 refine⟨r,?_,⟨rfl,?_,lo.ws⟩,nr⟩;rotate_left
 ·obtain⟨ss,g,hs⟩:=lo.rl;exact⟨ss,g,λs h=>by
   rcases vP (hs s h)with rfl|h
   ·exact SA
   ·rw[uU h];exact SD⟩
 rw[←lo.tx];refine au rfl (La s3 (La s4 (La s5 (La s6 ?_))));show ay _ _ (E none none)=_;refine rh (ts:=[T0,("named " : Str)++nS d++(" " : Str)++o++(" " : Str)++a]) (zm (((SL.add .c so).add .c).l ((((((SL.add .c sd).add .c).add so).add .c).add sa).l rfl))) ?_;refine La (x:=A0) (((((SL.add .c sd).add .c).add sa).add .c).add so) ?_;refine rh (jV _ [A0++(" " : Str)++b++(" " : Str)++nS h] (sv rfl) (zm (((((SL.v (i:=8) (n:=200) rfl ?_).add .c).add sb).add .c).add sh |>.l rfl))) ?_
 ·exact hA
 refine rh (jV _ [("heir " : Str)++nS d++(" " : Str)++a++(" " : Str)++o++(" " : Str)++b] (sv rfl) (zm ((((((((SL.add .c sd).add .c).add sa).add .c).add so).add .c).add sb).l rfl))) ?_;refine rh (jV _ [("death " : Str)++nS d++(" " : Str)++a] (sv rfl) (zm ((((SL.add .c sd).add .c).add sa).l rfl))) ?_;refine rh (jV _ [("lost " : Str)++nS d++(" " : Str)++a,("found " : Str)++nS d++(" " : Str)++b] (sv rfl) (zm ((((SL.add .c sd).add .c).add sa).l ((((SL.add .c sd).add .c).add sb).l rfl)))) ?_;refine rh (jV _ [("leave " : Str)++nS d++(" " : Str)++a++(" " : Str)++b++(" ab 3 90 2" : PySem.Str)] (sv rfl) (zm (((((((SL.add .c sd).add .c).add sa).add .c).add sb).add .c).l rfl))) ?_;refine rh (jV _ [("copy " : Str)++nS d++(" " : Str)++a++(" 5" : PySem.Str)] (sv rfl) (zm (((((SL.add .c sd).add .c).add sa).add .c).l rfl))) ?_;refine rh (jV _ [("paper " : Str)++nS d++(" " : Str)++a++(" c 0 - " : PySem.Str)++b++(" of the king" : Str)] (sv rfl) (zm (((((((SL.add .c sd).add .c).add sa).add .c).add sb).add .c).l rfl))) ?_;refine rh (jV _ [("call " : Str)++nS d++(" " : Str)++b++(" 59" : PySem.Str)] (sv rfl) (zm (((((SL.add .c sd).add .c).add sb).add .c).l rfl))) ?_;refine rh (jV _ [("like " : Str)++nS d++(" " : Str)++a++(" gh 7 8 - 0 0 of 7 the" : PySem.Str)] (sv rfl) (zm (((((SL.add .c sd).add .c).add sa).add .c).l rfl))) ?_;exact gY _
def iA:List Str:=match kN [] with
 |some (.lst ds,_)=>(fu ds).getD []
 |_=>[]
theorem mx:(DN (kN []) (.lst (iA.map .str)) true && decide (iA.length=60))=true:=by decide +kernel
theorem Lb:iA.all (λz=>DN (e5 [.str z]) .non false && (decide (10∉z.cps.toList) && decide (z.length<=900)))=true:=by decide +kernel
theorem Ih {k:Str}{n:Int}:iz [.tup [.str k,.int n],.str k,.int n]=some (.bl true,false):=by
 have x0:∀ρ:DL.Env,ρ[0]? = some (some (.tup [.str k,.int n],false))->eF 0 0 ρ=some (.str k,false):=λρ h=>ce (x:=.tup [.str k,.int n]) (y:=.int 0) (b1:=false) (b2:=false) (by simp[h]) rfl (by simp[t6]);have x1:∀ρ:DL.Env,ρ[0]? = some (some (.tup [.str k,.int n],false))->eF 0 1 ρ=some (.int n,false):=λρ h=>ce (x:=.tup [.str k,.int n]) (y:=.int 1) (b1:=false) (b2:=false) (by simp[h]) rfl (by simp[xC]);exact au rfl (ar (bu (p:=false) (q:=false) (vj (dZ (.str k) (.str k) (x0 _ rfl) rfl (by simp))) λ_=>vj (lZ [.int n,.ty "bool"] (sY (x1 _ rfl) rfl) (by simp))) (ar (vj (dZ (.int n) .non rfl rfl (by simp))) (aE (iW (p:=true) (q:=true) (b1:=false) (lZ [.int n,.ty "int"] (sY (x1 _ rfl) rfl) (by simp)) λ_=>dZ (.int n) (.int n) (x1 _ rfl) rfl (by simp)))))
theorem Ii {k:Str}:iz [.tup [.str k,.non],.str k,.non]=some (.bl true,false):=by
 have x0:∀ρ:DL.Env,ρ[0]? = some (some (.tup [.str k,.non],false))->eF 0 0 ρ=some (.str k,false):=λρ h=>ce (x:=.tup [.str k,.non]) (y:=.int 0) (b1:=false) (b2:=false) (by simp[h]) rfl (by simp[t6]);have x1:∀ρ:DL.Env,ρ[0]? = some (some (.tup [.str k,.non],false))->eF 0 1 ρ=some (.non,false):=λρ h=>ce (x:=.tup [.str k,.non]) (y:=.int 1) (b1:=false) (b2:=false) (by simp[h]) rfl (by simp[xC]);exact au rfl (ar (bu (p:=false) (q:=false) (vj (dZ (.str k) (.str k) (x0 _ rfl) rfl (by simp))) λ_=>vj (lZ [.non,.ty "bool"] (sY (x1 _ rfl) rfl) (by simp))) (bL (vj (dZ .non .non rfl rfl (by simp))) (aE (dZ .non .non (x1 _ rfl) rfl (by simp)))))
def pr (r:Rw):Str×D:=(r.t,r.d)
theorem LO.ln {ps:List Str}{t:Str}{r:Rw}(g:LO ps t r):wv (pr r).1 (pr r).2:=let ⟨_,q,_⟩:=g.rl;El q g.ws
theorem LO.row {ps:List Str}{t:Str}{r:Rw}(g:LO ps t r):∃ss,ma r.d ss/\∀s∈ss,s∈ps:=let ⟨ss,q,hs⟩:=g.rl;⟨ss,⟨r.h,r.kind,_,rfl,q.h0,q.h1,q.good⟩,hs⟩
theorem LO.nm {ps:List Str}{t:Str}{r:Rw}(g:LO ps t r):∀s∈fG r.d,s∈ps:=λs h=>let ⟨_,q,hs⟩:=g.row;hs s (((Bt q).2.2 s).mp h)
structure fj (o:Str)(ps:List Str)(M:List Rw):Prop where
 lo:∀r∈M,LO ps r.t r/\bX r.d=false
 len:M.length<=13
 no:cQ o=true
 p4:ps.length<=4
section
variable {o:Str}{ps:List Str}{M:List Rw}
abbrev cF (o:Str)(M:List Rw):List Rw:=BN o::M
theorem fj.all (g:fj o ps M):∀r∈cF o M,LO ps r.t r:=λr h=>by
 rcases vP h with rfl|h
 ·have:=F4 (ps:=ps) g.no;exact⟨rfl,this.rl,this.ws⟩
 ·exact(g.lo r h).1
theorem qk (o:Str):bX (BN o).d=true/\g6 (BN o).d=o:=⟨show decide (("root" : Str)=("root" : Str))=true by decide +kernel,rfl⟩
theorem ql (o:Str):bX (uc o).d=true/\g6 (uc o).d=o:=⟨show decide (("root" : Str)=("root" : Str))=true by decide +kernel,rfl⟩
theorem fj.roots (g:fj o ps M):((cF o M).map Rw.d).filter bX=[(BN o).d]:=by
 have:(M.map Rw.d).filter bX=[]:=List.filter_eq_nil_iff.mpr λx hx=>by
  obtain⟨r,hr,rfl⟩:=vO hx;rw[(g.lo r hr).2];decide
 rw[uZ,List.filter_cons_of_pos (qk o).1,this]
theorem fj.fine (g:fj o ps M):Fine ps ((cF o M).map Rw.d):=by
 refine⟨λr hr=>?_,by rw[g.roots];exact List.nodup_cons.mpr ⟨by simp,List.nodup_nil⟩,λr hr=>?_⟩
 ·obtain⟨x,hx,rfl⟩:=vO hr;obtain⟨ss,q,_⟩:=(g.all x hx).row;exact⟨ss,q⟩
 ·obtain⟨x,hx,rfl⟩:=vO hr;exact(g.all x hx).nm
theorem F5 (M:List Rw):(M.map pr).map (·.1)=M.map Rw.t:=by rw[uP];rfl
theorem lP (M:List Rw):(M.map pr).map (·.2)=M.map Rw.d:=by rw[uP];rfl
theorem fj.lns (g:fj o ps M){Ex:List (Str×D)}(h:∀x∈Ex,wv x.1 x.2)(hl:Ex.length<=80):Lns ((cF o M).map pr++Ex):=by
 refine⟨λx hx=>?_,by simp;have:=g.len;omega,pr (BN o),by simp,BE⟩;rcases List.mem_append.mp hx with hx|hx
 ·obtain⟨r,hr,rfl⟩:=vO hx;exact(g.all r hr).ln
 ·exact h x hx
theorem og (M:List Rw):(M.map Rw.d).any ci=false:=by rw[List.any_eq_false];intro d hd;obtain⟨r,_,rfl⟩:=vO hd;exact uY
theorem fj.lns0 (g:fj o ps M):Lns ((cF o M).map pr):=by have:=g.lns (Ex:=[]) (λx h=>nomatch h) (by decide);rwa [uQ]at this
theorem fj.flat (g:fj o ps M):bR ((cF o M).map Rw.d)=true:=dL (by
 intro d hd;obtain⟨r,hr,rfl⟩:=vO hd;obtain⟨ss,q,_⟩:=(g.all r hr).rl;exact xQ q)
abbrev zo (o:Str)(M:List Rw):Str:=iJ ((cF o M).map pr)
theorem fj.read (g:fj o ps M):jQ [.str (zo o M)]=some (.tup ((cF o M).map Rw.d),false) :=
 NG g.lns0 (by rw[lP];exact og _) (by rw[lP];exact Bw g.fine (by have:=g.p4;omega) (by simp;have:=g.len;omega) g.flat (.inl rfl))
theorem fj.shown (g:fj o ps M):jt [.tup ((cF o M).map Rw.d)]=some (.str (zo o M),false):=by
 have hl:=g.len;refine au rfl (aE (ce (x:=.str ("\n" : PySem.Str)) (y:=.lst (((cF o M).map Rw.t).map .str)) (b1:=false) (b2:=true) rfl ?_ (by have:=nX g.lns0;rwa [F5]at this)));generalize hM:cF o M=N;have hN:N.length<=100000:=by rw[←hM];simp;omega
 rw[uP];refine fw (fi:=cK (ah 0)) (nT:=1) (cap:=[]) (tg:=eC 0) (fe:=fA js (ag (ah 0) al)) (ρ:=[some (.tup (N.map Rw.d),false)]) N Rw.d (λr=>.str r.t) (by simp) hN λr hr=>?_;obtain⟨ss,q,_⟩:=(g.all r (hM ▸ hr)).rl;exact⟨_,rfl,false,am (ds:=[r.d]) rfl (DZ q.pw q.len q.h0 q.h1 q.kl (ji q.h0 q.h1).2.2 q.parts)⟩
theorem BP (A:List Rw)(B:List D):(A.map Rw.d++.non::B).findIdx ci=A.length:=by
 induction A with
 |nil=>rfl
 |cons r A ih=>
  rw[uZ,List.cons_append,List.findIdx_cons,ih,show ci r.d=false from rfl];rfl
theorem fj.bad (g:fj o ps M){z:Str}(hz:wv z .non){a:Nat}{Ex:List Rw}(hx:∀r∈Ex,LO ps r.t r)(he:Ex.length<=1){A B:List Rw}(hA:cF o M++Ex=A++B)(hl:A.length=a):
  Lns (A.map pr++(z,.non)::B.map pr)/\aU [.str (iJ (A.map pr++(z,.non)::B.map pr))]=some (.tup [.str "text",.int (a:Nat)],false):=by
 have hb:=g.len;have h1:∀r,r∈A∨r∈B->LO ps r.t r:=λr h=>by
  have:r∈cF o M++Ex:=by rw[hA];exact List.mem_append.mpr h
  rcases List.mem_append.mp this with h|h
  ·exact g.all r h
  ·exact hx r h
 have bC:A.length+B.length<=15:=by have:=congrArg List.length hA;simp at this;omega
 have lns:Lns (A.map pr++(z,.non)::B.map pr):=by
  refine⟨λx hx=>?_,by simp;omega,?_⟩
  ·rcases List.mem_append.mp hx with hx|hx
   ·obtain⟨r,hr,rfl⟩:=vO hx;exact(h1 r (.inl hr)).ln
   ·rcases vP hx with rfl|hx
    ·exact hz
    ·obtain⟨r,hr,rfl⟩:=vO hx;exact(h1 r (.inr hr)).ln
  ·have:BN o∈A++B:=by rw[←hA];simp
   rcases List.mem_append.mp this with h|h
   ·exact⟨pr (BN o),List.mem_append_left _ (List.mem_map.mpr ⟨_,h,rfl⟩),BE⟩
   ·exact⟨pr (BN o),mY _ (mZ _ (List.mem_map.mpr ⟨_,h,rfl⟩)),BE⟩
 have e2:(A.map pr++(z,.non)::B.map pr).map (·.2)=A.map Rw.d++.non::B.map Rw.d:=by rw[List.map_append,uZ,lP,lP]
 have:=Em lns (by rw[e2];simp[ci]);rw[e2,BP,hl]at this;exact⟨lns,this⟩
theorem fj.twice (g:fj o ps M):Lns ((cF o M).map pr++[pr (uc o)])/\aU [.str (iJ ((cF o M).map pr++[pr (uc o)]))]=some (.tup [.str "row",.int ((cF o M).length:Nat)],false):=by
 have hb:=g.len;have lns:=g.lns (Ex:=[pr (uc o)]) (λx hx=>by rw[uU hx];exact(xT (ps:=ps) g.no).ln) (by simp);have e2:((cF o M).map pr++[pr (uc o)]).map (·.2)=(cF o M).map Rw.d++(uc o).d::[]:=by rw[List.map_append,lP];rfl
 obtain⟨ss,gr,_⟩:=(xT (ps:=ps) g.no).row;refine⟨lns,qZ lns (by rw[e2,List.any_append,og];rfl) ?_⟩;rw[e2];have:=Bv (post:=[]) g.fine (by have:=g.p4;omega) (by simp;omega) (by simp;omega) (.inr (.inr ⟨ss,gr,.inl ?_⟩)) (.inl rfl)
 ·rw[vI]at this;exact this
 ·unfold vw;rw[(ql o).1,g.roots,(ql o).2];simp[(qk o).2]
theorem fj.long (g:fj o ps M){z:Str}(hz:cQ z=true)(hp:z∈ps):Lns ((cF o M).map pr++List.replicate 61 (pr (rb z)))/\aU [.str (iJ ((cF o M).map pr++List.replicate 61 (pr (rb z))))]=some (.tup [.str "row",.int ((60:Nat):Int)],false):=by
 have hb:=g.len;have lf:=BO hz;have lns:=g.lns (Ex:=List.replicate 61 (pr (rb z))) (λx hx=>by rw[(List.mem_replicate.mp hx).2];exact lf.ln) (by rw[List.length_replicate];decide);have e2:((cF o M).map pr++List.replicate 61 (pr (rb z))).map (·.2)=(cF o M).map Rw.d++List.replicate 61 (rb z).d:=by rw[List.map_append,lP,List.map_replicate];rfl
 have Jl:List.replicate 61 (rb z).d=List.replicate (60 - (cF o M).length) (rb z).d++(rb z).d::List.replicate (cF o M).length (rb z).d:=by
  have MG:(cF o M).length<=60:=by simp;omega
  rw[←List.replicate_succ,List.replicate_append_replicate];congr 1;omega
 refine⟨lns,qZ lns ?_ ?_⟩
 ·rw[e2,List.any_append,og,Bool.false_or,List.any_replicate];simp[ci,Rw.d,row]
 ·rw[e2,Jl,←List.append_assoc];have hl:((cF o M).map Rw.d++List.replicate (60 - (cF o M).length) (rb z).d).length=60:=by simp;omega
  obtain⟨ss,gr,hs⟩:=lf.row;have F:Fine ps ((cF o M).map Rw.d++List.replicate (60 - (cF o M).length) (rb z).d):=by
   have nr:∀x∈List.replicate (60 - (cF o M).length) (rb z).d,bX x=false:=λx hx=>by rw[(List.mem_replicate.mp hx).2];exact show decide (("found" : Str)=("root" : Str))=false by decide +kernel
   refine g.fine.app (Fine.noRoot (λr hr=>?_) nr λr hr s hs'=>?_) λx _ y hy _ hr=>by rw[nr y hy]at hr;cases hr
   ·rw[(List.mem_replicate.mp hr).2];exact⟨ss,gr⟩
   ·rw[(List.mem_replicate.mp hr).2]at hs';have:=lf.nm s hs';rw[uU this];exact hp
  have:=Bv (post:=List.replicate (cF o M).length (rb z).d) (r:=(rb z).d) F (by have:=g.p4;omega) (by omega) (by simp;omega) (.inl hl) (.inl rfl);rw[hl]at this;exact this
end
def zy (k:Nat):Str:=⟨#[iG.cps.toList.getD k 0]⟩++("zzzzzz" : Str)
def zn (k:Nat):Str:=("z" : Str)++zy k
theorem tW:(List.range 21).all (λk=>cQ (zn k))=true:=by decide +kernel
theorem Lc:decide ((List.range 21).map zn).Nodup=true:=by decide +kernel
noncomputable def many:List Rw:=(List.range 21).map λk=>E1 (zn k)
theorem my {r:Rw}(h:r∈many):∃k,k<21/\r=E1 (zn k)/\LO [zn k] r.t r:=by
 obtain⟨k,hk,rfl⟩:=vO h;have hk:=List.mem_range.mp hk;have:=xU (y:=zy k) (uR tW k (List.mem_range.mpr hk));exact⟨k,hk,rfl,rfl,this.rl,this.ws⟩
theorem xV {r:Rw}(h:r∈many):bX r.d=false:=by
 obtain⟨k,_,rfl,_⟩:=my h;exact show decide (("lost" : Str)=("root" : Str))=false by decide +kernel
section
variable {o:Str}{ps:List Str}{M:List Rw}
theorem least {P:Nat->Bool}:∀ {n:Nat},P n=true->∃p,p<=n/\P p=true/\∀i,i<p->P i=false
 |0,h=>⟨0,vT _,h,λi hi=>absurd hi (Nat.not_lt_zero _)⟩
 |n+1,h=>by
  by_cases q:∃i,i<=n/\P i=true
  ·obtain⟨i,hi,hp⟩:=q;obtain⟨p,h1,h2,h3⟩:=least hp;exact⟨p,by omega,h2,h3⟩
  ·refine⟨n+1,vT _,h,λi hi=>?_⟩;cases e:P i with
   |false=>rfl
   |true=>exact absurd ⟨i,by omega,e⟩ q
termination_by n=>n
decreasing_by all_goals omega
theorem fj.many (g:fj o ps M):Lns ((cF o M).map pr++Lw.many.map pr)/\∃p:Nat,(cF o M).length+16<=p/\p<=(cF o M).length+20/\aU [.str (iJ ((cF o M).map pr++Lw.many.map pr))]=some (.tup [.str "row",.int (p:Nat)],false):=by
 have hb:=g.len;have hm:Lw.many.length=21:=by simp[Lw.many]
 have lns:=g.lns (Ex:=Lw.many.map pr) (λx hx=>by
  obtain⟨r,hr,rfl⟩:=vO hx;obtain⟨k,_,_,lo⟩:=my hr;exact lo.ln) (by rw[vI,hm];decide)
 have e2:((cF o M).map pr++Lw.many.map pr).map (·.2)=(cF o M).map Rw.d++Lw.many.map Rw.d:=by rw[List.map_append,lP,lP]
 obtain⟨aD,er⟩:∃aD,(cF o M).map Rw.d++Lw.many.map Rw.d=aD:=⟨_,rfl⟩;have good:tJ aD:=λr hr=>by
  rw[←er]at hr;rcases List.mem_append.mp hr with hr|hr
  ·exact g.fine.good r hr
  ·obtain⟨x,hx,rfl⟩:=vO hr;obtain⟨k,_,_,lo⟩:=my hx;obtain⟨ss,q,_⟩:=lo.row;exact⟨ss,q⟩
 have bC:aD.length=(cF o M).length+21:=by rw[←er];simp[hm]
 have FV:∀(qs:List Str),(∀s∈ps,s∈qs)->∀n,(∀k,k<n->zn k∈qs)->Fine qs ((cF o M).map Rw.d++(Lw.many.take n).map Rw.d):=λqs h1 n h2=>by
  have F:=g.fine;refine Fine.app ⟨F.good,F.nd,λr hr s hs=>h1 s (F.nm r hr s hs)⟩ (Fine.noRoot (λr hr=>?_) (λx hx=>?_) λr hr s hs=>?_) λx _ y hy _ hr=>?_
  ·obtain⟨x,hx,rfl⟩:=vO hr;obtain⟨k,_,_,lo⟩:=my (List.mem_of_mem_take hx);obtain⟨ss,q,_⟩:=lo.row;exact⟨ss,q⟩
  ·obtain⟨r,hr,rfl⟩:=vO hx;exact xV (List.mem_of_mem_take hr)
  ·obtain⟨x,hx,rfl⟩:=vO hr;have SE:x∈(List.range (min n 21)).map λk=>E1 (zn k):=by
    have:=hx;unfold Lw.many at this;rwa [←List.map_take,List.take_range]at this
   obtain⟨k,hk,rfl⟩:=vO SE;have hk:=List.mem_range.mp hk;have lo:=xU (y:=zy k) (uR tW k (List.mem_range.mpr (by omega)));have:=lo.nm s hs;rw[uU this];exact h2 k (by omega)
  ·obtain⟨r,LW,rfl⟩:=vO hy;rw[xV (List.mem_of_mem_take LW)]at hr;cases hr
 have few:∀i,i<(cF o M).length+16->jB (aD.take (i+1))<=20:=λi hi=>by
  have F:=FV (ps++(List.range 16).map zn) (λs h=>List.mem_append_left _ h) 16 λk hk=>mY _ (List.mem_map.mpr ⟨k,List.mem_range.mpr hk,rfl⟩);have:(aD.take (i+1)).Sublist ((cF o M).map Rw.d++(Lw.many.take 16).map Rw.d):=by
   have e:(cF o M).map Rw.d++(Lw.many.take 16).map Rw.d=aD.take ((cF o M).length+16):=by
    rw[←er,show(cF o M).length+16=((cF o M).map Rw.d).length+16 by rw[vI],List.take_length_add_append,List.map_take]
   rw[e];exact List.take_sublist_take_left (by omega)
  have h1:=tQ (F.sub this);have h2:=g.p4;simp at h1;omega
 have all:20<jB (aD.take ((cF o M).length+20+1)):=by
  have nd:=of_decide_eq_true Lc;rw[List.take_of_length_le (by omega)];have:=nL ((List.range 21).map zn) (eY (aD.flatMap fG)) nd λx hx=>by
   obtain⟨k,hk,rfl⟩:=vO hx;have z7:=List.mem_range.mp hk;have OU:E1 (zn k)∈Lw.many:=List.mem_map.mpr ⟨k,hk,rfl⟩;have lo:=xU (y:=zy k) (uR tW k hk);obtain⟨ss,q,_⟩:=lo.rl;have gr:ma (E1 (zn k)).d [zn k]:=by
    have q:RL [zn k] 9 ("lost" : Str) [dy 1,qP (zn k)]:=xO (h:=9) (kind:=("lost" : Str)) (parts:=[("day" : Str),("person" : Str)]) (.cons (qX (by decide) (by decide)) (.cons (jD (uR tW k hk)) .nil)) (by decide) (by decide) (by decide) rfl (λe=>absurd e (of_decide_eq_false (show decide (("lost" : Str)=("chosen" : Str))=false by decide +kernel)));exact⟨9,_,_,rfl,q.h0,q.h1,q.good⟩
   refine xF (List.mem_flatMap.mpr ⟨(E1 (zn k)).d,?_,((Bt gr).2.2 _).mpr (by simp)⟩);rw[←er];exact mY _ (List.mem_map.mpr ⟨_,OU,rfl⟩)
  rw[vI,List.length_range]at this;exact this
 obtain⟨p,hp,h1,h2⟩:=least (P:=λi=>decide (20<jB (aD.take (i+1)))) (n:=(cF o M).length+20) (decide_eq_true all);have Mg:(cF o M).length+16<=p:=by
  by_cases h:p<(cF o M).length+16
  ·have:=few p h;have:=of_decide_eq_true h1;omega
  ·omega
 have OA:(cF o M).length<=14:=by simp;omega
 have ref:∀i,i<=p->bq [.tup aD,.int i]=some (.bl (decide (20<jB (aD.take (i+1)))),false):=λi hi=>by
  obtain⟨r,hr⟩:∃r,aD[i]? = some r:=⟨_,vU (by omega)⟩;obtain⟨ss,gr⟩:=good r (List.mem_of_getElem? hr);have F:=FV (ps++(List.range 21).map zn) (λs h=>List.mem_append_left _ h) 21 λk hk=>mY _ (List.mem_map.mpr ⟨k,List.mem_range.mpr hk,rfl⟩);rw[List.take_of_length_le (by omega),er]at F;rw[jS hr (by omega) (λx hx=>good x (List.mem_of_mem_take hx)) gr (by omega),qa F hr,Bool.false_or]
 refine⟨lns,p,Mg,hp,qZ lns ?_ ?_⟩
 ·rw[e2,List.any_append,og,og];rfl
 ·rw[e2,er];refine pZ (by omega) (by omega) (λi hi=>?_) ?_ (.inl rfl)
  ·rw[ref i (by omega),h2 i hi]
  ·rw[ref p (vT _)];exact congrArg (λb=>some (D.bl b,false)) h1
end
theorem zp (l:List D)(a:Nat):iP l (some (a:Int)) none=l.drop a:=by
 unfold iP;rw[HT.wE,HT.rB];by_cases h:a<=l.length
 ·rw[Nat.min_eq_left h,List.take_of_length_le (by simp)]
 ·rw[Nat.min_eq_right (by omega),List.drop_eq_nil_of_le (vT _),List.drop_eq_nil_of_le (by omega)];simp
theorem QI {fa fh:FE}{ρ:DL.Env}{l:List Str}{n:Nat}{b b2:Bool}(e:fa ρ=some (.lst (l.map .str),b))(h:fh ρ=some (.int n,b2)):mN fa dA (cE fh) ρ=lT ((l.take n).map .str):=by
 have:=jh (l.map D.str) n;rw[List.map_take];simp[e,h,this]
theorem QJ {fa fh:FE}{ρ:DL.Env}{l:List Str}{n:Nat}{b b2:Bool}(e:fa ρ=some (.lst (l.map .str),b))(h:fh ρ=some (.int n,b2)):mN fa (cE fh) dA ρ=lT ((l.drop n).map .str):=by
 have:=zp (l.map D.str) n;rw[List.map_drop];simp[e,h,this]
theorem gj {Ls:List (Str×D)}{res:OB}(hL:Lns Ls)(hr:aU [.str (iJ Ls)]=res)(ts:List Str)(e:Ls.map (·.1)=ts){ρ:DL.Env}{f:FE}{b:Bool}(ef:f ρ=some (.lst (ts.map .str),b)):fA aU (ag (f2 dn (fS ("\n" : PySem.Str)) f) al) ρ=res :=
 am (ds:=[.str (iJ Ls)]) (aW (b:=false) (ce (x:=.str ("\n" : PySem.Str)) (y:=.lst (ts.map .str)) (b1:=false) (b2:=b) rfl ef (by rw[←e];exact nX hL)) rfl) hr
theorem Ij {i:Nat}(h:i<60):∃z,iA[i]? = some z/\wv z .non:=by
 have hl:=mx;rw[vD]at hl;have hl:=of_decide_eq_true hl.2;have hi:i<iA.length:=by omega
 refine⟨iA[i],vU hi,?_⟩;have:=uR Lb iA[i] (List.getElem_mem hi);rw[vD,vD]at this;exact⟨bT this.1,of_decide_eq_true this.2.1,of_decide_eq_true this.2.2,rfl,rfl⟩
theorem BQ {ρ:DL.Env}{f:FE}{c:Int}{i:Nat}{b:Bool}(e:ρ[i]? = some (some (.lst (iA.map .str),b)))(ef:f ρ=sF (.int c)):∃z,wv z .non/\f2 eE (ah i) (f2 dr f (fA bS (fV i al))) ρ=sF (.str z):=by
 have hl:=mx;rw[vD]at hl;have hl:=of_decide_eq_true hl.2;have Jl:=mod_lt (x:=c) (m:=60) (by decide);obtain⟨j,hj⟩:∃j:Nat,c % 60=j:=⟨(c % 60).toNat,by omega⟩;obtain⟨z,hz,ok⟩:=Ij (i:=j) (by omega);refine⟨z,ok,dZ (.lst (iA.map .str)) (.int j) (by simp[e]) (dZ (.int c) (.int 60) ef (lZ [.lst (iA.map .str)] (by simp[e]) (by rw[ip,vI,hl];rfl)) (by rw[zi _ (by decide),hj])) ?_⟩;have:(iA.map D.str)[j]? = some (.str z):=by rw[vB,hz];rfl
 generalize iA.map D.str=q at this;simp[qT this]
theorem BR:∀(ds:List D),(∀d∈ds,aK [d,.ty "str"]=some (.bl false,false))->∀(ρ:DL.Env),ρ.length=15->∃ρ',eD (eC 14) nI ds ρ=some (.nx ρ')/\ρ'[5]? = ρ[5]?
 |[],_,ρ,_=>⟨ρ,by simp[eD],rfl⟩
 |d::ds,h,ρ,hl=>by
  have SG:(ρ.set 14 (some (d,false)))[14]? = some (some (d,false)):=by rw[List.getElem?_set_self (by omega)]
  have hb:nI (ρ.set 14 (some (d,false)))=some (.nx (ρ.set 14 (some (d,false)))):=Bj (cr (p:=true) (vj (lZ [.tup [.str "text",.non],.str "text",.non] (sY (lZ [d] (by simp[SG]) (En (h d (by simp)))) rfl) Ii))) rfl;obtain⟨ρ',e1,e2⟩:=BR ds (λx hx=>h x (mZ _ hx)) (ρ.set 14 (some (d,false))) (by rw[List.length_set];exact hl);refine⟨ρ',?_,by rw[e2,vC (by decide)]⟩;rw[jl];show(match nI (ρ.set 14 (some (d,false))) with|some (.nx ρ')=>_|some (.ct ρ')=>_|some (.bk ρ')=>_|r=>r)=_;rw[hb];exact e1
theorem wj {ρ:DL.Env}:bP (da (fI 21)) 1 [] (eC 0) cD (f2 aF (f2 aF (fS ("9 lost 1 z" : PySem.Str)) (f2 eE (fS "abcdefghijklmnopqrstuvwxyz") (ah 0))) (fS "zzzzzz")) ρ=lT ((many.map Rw.t).map .str):=by
 have:=fw (fi:=da (fI 21)) (nT:=1) (cap:=[]) (tg:=eC 0) (fe:=f2 aF (f2 aF (fS ("9 lost 1 z" : PySem.Str)) (f2 eE (fS "abcdefghijklmnopqrstuvwxyz") (ah 0))) (fS "zzzzzz")) (ρ:=ρ) (List.range 21) (λ(k:Nat)=>.int k) (λ(k:Nat)=>.str (E1 (zn k)).t)
  (by rw[fM (j:=21) (b:=false) rfl (by decide),pB,uP];rfl) (by simp) λk hk=>by
   have z7:=List.mem_range.mp hk;have lo:=xU (y:=zy k) (uR tW k hk);refine⟨_,rfl,false,?_⟩;have ex:f2 eE (fS "abcdefghijklmnopqrstuvwxyz") (ah 0) [some (.int k,false)]=sF (.str ⟨#[iG.cps.toList.getD k 0]⟩):=dZ (.str iG) (.int k) rfl rfl (DL.m8 (by omega) (by rw[qj];omega) (by decide +kernel));have s1:SL 1 (f2 eE (fS "abcdefghijklmnopqrstuvwxyz") (ah 0)) [some (.int k,false)] ⟨#[iG.cps.toList.getD k 0]⟩:=⟨ex,Nat.le_of_eq (dc _)⟩;have:=((SL.add .c s1).add .c (x:=("9 lost 1 z" : PySem.Str)++⟨#[iG.cps.toList.getD k 0]⟩) (y:=("zzzzzz" : Str))).1;rw[bx]at this;rw[show(E1 (zn k)).t=("9 lost 1 z" : PySem.Str)++(⟨#[iG.cps.toList.getD k 0]⟩++("zzzzzz" : Str))from lo.tx.symm];exact this
 rw[this];unfold many;rw[uP,uP];rfl
theorem NM {n:Nat}{f:FE}{ρ:DL.Env}{x:Str}(h:SL n f ρ x):fA aX (ag f al) ρ=lT ([x].map .str):=zm (h.l rfl)
theorem E3 {ns:List Int}(hf:Kz ns){zs:List Str}(nm:Nm6 zs){n:Nat}(hn:n<=13):∃(M:List Rw)(v3 v4:OB),fj (jj zs 4) (zs.take 4) M /\
  eD (eC 3) vm (cP 0 n) [sF (.lst (ns.map .int)),lT (zs.map .str),lT (((cF (jj zs 4) []).map Rw.t).map .str),none,none,none,none,none,none,none,none,none,none,none,none]
   = some (.nx [sF (.lst (ns.map .int)),lT (zs.map .str),lT (((cF (jj zs 4) M).map Rw.t).map .str),v3,v4,none,none,none,none,none,none,none,none,none,none]):=by
 have ho:=nm.nm _ (jx nm (i:=4) (by decide));obtain⟨ρ',e,M,v3,v4,hl,hM,rfl⟩:=nj (tg:=eC 3) (g:=vm) n (λi ρ=>∃(M:List Rw)(v3 v4:OB),M.length=i/\(∀r∈M,LO (zs.take 4) r.t r/\bX r.d=false) /\
   ρ=[sF (.lst (ns.map .int)),lT (zs.map .str),lT (((cF (jj zs 4) M).map Rw.t).map .str),v3,v4,none,none,none,none,none,none,none,none,none,none])
  [sF (.lst (ns.map .int)),lT (zs.map .str),lT (((cF (jj zs 4) []).map Rw.t).map .str),none,none,none,none,none,none,none,none,none,none,none,none] ⟨[],none,none,rfl,(λr h=>nomatch h),rfl⟩ (by
   rintro i ρ hi ⟨M,v3,v4,hl,hM,rfl⟩;obtain⟨c,ec⟩:=mw hf (3+i) (by omega);have ec:e6 [.lst (ns.map .int),.int (3+(i:Int))]=sF (.int c):=by
    rw[show(3+(i:Int))=((3+i:Nat):Int) by omega];exact ec
   obtain⟨c',F9⟩:∃x,c % 1000000000000=x:=⟨_,rfl⟩;have S9:=mod_lt (x:=c' / 200) (m:=11) (by decide);obtain⟨k,hk⟩:∃k:Nat,1+c' / 200 % 11=k:=⟨(1+c' / 200 % 11).toNat,by omega⟩;obtain⟨r,er,lo,nr⟩:=E2 nm (c:=c') (k:=k) (by omega) (by omega);refine⟨_,_,rfl,.inl (DT (.int c') ?_ rfl (vi (d:=.str r.t) (b:=false) (ds:=((cF (jj zs 4) M).map Rw.t).map .str) rfl ?_ rfl (io (by simp;omega)))),M++[r],sF (.int i),sF (.int c'),by simp[hl],λx hx=>?_,?_⟩
   ·exact dZ (.int c) (.int 1000000000000) (lZ [.lst (ns.map .int),.int (3+(i:Int))] rfl ec) rfl (by rw[zi _ (by decide),F9])
   ·exact lZ [.int k,.int c',.lst (zs.map .str)] (sY (hk ▸ dZ (.int 1) (.int (c' / 200 % 11)) rfl (im (HV rfl (by decide) (by decide)) (by decide)) rfl) rfl) er
   ·rcases List.mem_append.mp hx with hx|hx
    ·exact hM x hx
    ·rw[uU hx];exact⟨lo,nr⟩
   ·simp)
 refine⟨M,v3,v4,⟨hM,by omega,ho,by rw[List.length_take];omega⟩,e⟩
theorem law_true (ns:List Int)(Ol:ns.length<=63)(hf:Kz ns):∃b,F_law [.lst (ns.map .int)]=some (.bl true,b):=by
 obtain⟨c0,e0⟩:=mw hf 0 (by decide);obtain⟨c1,e1⟩:=mw hf 1 (by decide);obtain⟨c2,e2⟩:=mw hf 2 (by decide);obtain⟨zs,ez,nm⟩:=BK c0;have ho:=nm.nm _ (jx nm (i:=4) (by decide));have MI:=nm.nm _ (jx nm (i:=0) (by decide));have Tq:=mod_lt (x:=c1) (m:=14) (by decide);obtain⟨n,hn⟩:∃n:Nat,c1 % 14=n:=⟨(c1 % 14).toNat,by omega⟩;obtain⟨M,v3,v4,g,eL⟩:=E3 hf nm (n:=n) (by omega);obtain⟨o,eo⟩:∃z,jj zs 4=z:=⟨_,rfl⟩;obtain⟨z0,OV⟩:∃z,jj zs 0=z:=⟨_,rfl⟩;have SH:z0∈zs.take 4:=OV ▸ nZ nm (by decide) (by decide);rw[eo]at ho g eL;rw[OV]at MI;let TS:=(cF o M).map Rw.t;have Qz:TS.length=(cF o M).length:=vI ..;have MG:(cF o M).length<=14:=by have:=g.len;simp;omega
 have OW:iA.length=60:=by have hl:=mx;rw[vD]at hl;exact of_decide_eq_true hl.2
 have OX:kN []=lT (iA.map .str):=by have hl:=mx;rw[vD]at hl;exact bT hl.1
 have mA:=mod_lt (x:=c2 / 60) (m:=((cF o M).length+1:Int)) (by omega);obtain⟨a,ha⟩:∃a:Nat,c2 / 60 % ((cF o M).length+1:Int)=a:=⟨(c2 / 60 % ((cF o M).length+1:Int)).toNat,by omega⟩;have OT:a<=(cF o M).length:=by omega
 have so:∀ {ρ:DL.Env},ρ[1]? = some (lT (zs.map .str))->SL 20 (eF 1 4) ρ o:=λh=>⟨dZ (.lst (zs.map .str)) (.int 4) (by simp[h]) rfl (eo ▸ tV nm (by decide) (by decide)),i7 ho⟩;have s0:∀ {ρ:DL.Env},ρ[1]? = some (lT (zs.map .str))->SL 20 (eF 1 0) ρ z0:=λh=>⟨dZ (.lst (zs.map .str)) (.int 0) (by simp[h]) rfl (OV ▸ tV nm (by decide) (by decide)),i7 MI⟩;have Ck:∀ {ρ:DL.Env},ρ[2]? = some (lT (TS.map .str))->fA bS (fV 2 al) ρ=sF (.int (cF o M).length):=λh=>lZ [.lst (TS.map .str)] (by simp[h]) (by rw[ip,vI,Qz]);have OY:∀ {ρ:DL.Env},ρ[6]? = some (lT (iA.map .str))->fA bS (fV 6 al) ρ=sF (.int 60):=λh=>lZ [.lst (iA.map .str)] (by simp[h]) (by rw[ip,vI,OW];rfl);have Q0:∀ {ρ:DL.Env},ρ[5]? = some (sF (.str (zo o M)))->fA jt (ag (fA jQ (fV 5 al)) al) ρ=sF (.str (zo o M)):=λh=>lZ [.tup ((cF o M).map Rw.d)] (sY (lZ [.str (zo o M)] (by simp[h]) g.read) rfl) g.shown;have t0:("0 root " : PySem.Str)++o++(" abc 2 last" : PySem.Str)=(BN o).t:=(F4 (ps:=[]) ho).tx;have t7:("7 root " : PySem.Str)++o++(" a 0 open" : PySem.Str)=(uc o).t:=(xT (ps:=[]) ho).tx;have tF:("9 found 9 " : PySem.Str)++z0=(rb z0).t:=(BO MI).tx;have MJ:∀ {ρ:DL.Env}{fl fa:FE}{kind:Str}{x:Int},fl ρ=sF (.tup [.str kind,.int x])->fa ρ=sF (.int x)->bY (bw (fA iz (ag fl (ag (fS kind) (ag fa al))))) ρ=some false:=λ{ρ fl fa kind x} h1 h2=>cr (p:=true) (vj (lZ [.tup [.str kind,.int x],.str kind,.int x] (sY h1 (sY rfl (sY h2 rfl))) Ih));refine⟨false,au rfl (rh (ts:=zs) (lZ [.int c0] (sY (lZ [.lst (ns.map .int),.int 0] rfl e0) rfl) ez) (rh (ts:=[(BN o).t]) (t0 ▸ NM ((SL.add .c (so rfl)).add .c)) (iD (nu (fM (j:=n) (b:=false) (hn ▸ im (lZ [.lst (ns.map .int),.int 1] rfl e1) (by decide)) (by omega)) eL) (DT (.str (zo o M)) (ce (x:=.str ("\n" : PySem.Str)) (y:=.lst (TS.map .str)) (b1:=false) (b2:=false) rfl rfl (by have:=nX g.lns0;rwa [F5]at this)) rfl (ar (vj (dZ (.str (zo o M)) (.str (zo o M)) (Q0 rfl) rfl (by simp))) (DT (.int c2) (lZ [.lst (ns.map .int),.int 2] rfl e2) rfl (rh (ts:=iA) (lZ [] rfl OX) (DT (.int a) (dZ (.int (c2 / 60)) (.int ((cF o M).length+1)) (dZ (.int c2) (.int 60) rfl (OY rfl) (HU _ (by decide) (by decide))) (dZ (.int (cF o M).length) (.int 1) (Ck rfl) rfl rfl) (by rw[zi _ (by omega),ha])) rfl ?_))))))))⟩;obtain⟨z,SI,SJ⟩:=BQ (ρ:=[sF (.lst (ns.map .int)),lT (zs.map .str),lT (TS.map .str),v3,sF (.int c2),sF (.str (zo o M)),lT (iA.map .str),sF (.int a),none,none,none,none,none,none,none]) (i:=6) (f:=ah 4) (c:=c2) rfl rfl;have bd:=g.bad SI (a:=a) (Ex:=[]) (λr h=>nomatch h) (by simp) (A:=(cF o M).take a) (B:=(cF o M).drop a) (by rw[uQ,List.take_append_drop]) (by rw[List.length_take];omega);refine rh (ts:=TS.take a++[z]++TS.drop a) (jV _ _ (jV _ _ (QI (n:=a) (b:=false) (b2:=false) rfl rfl) (zm (sY SJ rfl)) (by rw[List.length_take];simp;omega)) (QJ (n:=a) (b:=false) (b2:=false) rfl rfl) (by simp[List.length_take,List.length_drop];omega)) (ar (MJ (gj bd.1 bd.2 (TS.take a++[z]++TS.drop a) (by simp[TS,pr,List.map_take,List.map_drop,Function.comp_def]) (b:=false) rfl) rfl) ?_);refine rh (ts:=TS++[(uc o).t]) (jV _ _ rfl (t7 ▸ NM ((SL.add .c (so rfl)).add .c)) (by simp;omega)) (ar (MJ (gj g.twice.1 g.twice.2 (TS++[(uc o).t]) (by simp[TS,pr,Function.comp_def]) (b:=false) rfl) (Ck rfl)) ?_);obtain⟨y,SK,SM⟩:=BQ (ρ:=[sF (.lst (ns.map .int)),lT (zs.map .str),lT (TS.map .str),v3,sF (.int c2),sF (.str (zo o M)),lT (iA.map .str),sF (.int a),lT ((TS.take a++[z]++TS.drop a).map .str),lT ((TS++[(uc o).t]).map .str),none,none,none,none,none]) (i:=6) (f:=f2 iN (fA e6 (fV 0 (ag (fI 2) al))) (fI 64)) (c:=c2 / 64) rfl (HV (lZ [.lst (ns.map .int),.int 2] rfl e2) (by decide) (by decide));have bb:=g.bad SK (a:=(cF o M).length+1) (Ex:=[uc o]) (λr h=>by rw[uU h];have:=xT (ps:=zs.take 4) ho;exact⟨rfl,this.rl,this.ws⟩) (by simp) (A:=cF o M++[uc o]) (B:=[]) (by simp) (by simp);refine rh (ts:=TS++[(uc o).t]++[y]) (jV _ _ rfl (zm (sY SM rfl)) (by simp;omega)) (ar (MJ (x:=(cF o M).length+1) (gj bb.1 (bb.2.trans (by simp)) (TS++[(uc o).t]++[y]) (by simp[TS,pr,Function.comp_def]) (b:=false) rfl) (dZ (.int (cF o M).length) (.int 1) (Ck rfl) rfl rfl)) ?_);obtain⟨lm,p,Mg,SN,em⟩:=g.many;have OZ:many.length=21:=by simp[many]
 refine rh (ts:=TS++many.map Rw.t) (jV _ _ rfl wj (by rw[Qz,vI,OZ];omega)) ?_;have lg:=g.long MI SH;have eR:∀ {ρ:DL.Env},ρ[1]? = some (lT (zs.map .str))->D0 (fA aX (ag (f2 aF (fS ("9 found 9 " : PySem.Str)) (eF 1 0)) al)) (fI 61) ρ=lT ((List.replicate 61 (rb z0).t).map .str):=λ{ρ} h=>by
  have:=NM (SL.add (x:=("9 found 9 " : PySem.Str)) .c (s0 h));rw[tF]at this;unfold D0;rw[this];rfl
 refine rh (ts:=TS++List.replicate 61 (rb z0).t) (jV _ _ rfl (eR rfl) (by simp;omega)) (ar (MJ (x:=60) (gj lg.1 lg.2 (TS++List.replicate 61 (rb z0).t) (by simp[TS,pr,Function.comp_def]) (b:=false) rfl) rfl) ?_);refine DT (.tup [.str "row",.int p]) (gj lm em (TS++many.map Rw.t) (by simp[TS,pr,Function.comp_def]) (b:=false) rfl) rfl ?_;have x0:∀ {ρ:DL.Env},ρ[13]? = some (sF (.tup [.str "row",.int p]))->eF 13 0 ρ=sF (.str "row"):=λh=>dZ (.tup [.str "row",.int p]) (.int 0) (by simp[h]) rfl (by simp[t6]);have x1:∀ {ρ:DL.Env},ρ[13]? = some (sF (.tup [.str "row",.int p]))->eF 13 1 ρ=sF (.int p):=λh=>dZ (.tup [.str "row",.int p]) (.int 1) (by simp[h]) rfl (by simp[xC]);have ch:∀ {ρ:DL.Env},ρ[2]? = some (lT (TS.map .str))->ρ[13]? = some (sF (.tup [.str "row",.int p]))->cH jJ jJ (f2 aF (fA bS (fV 2 al)) (fI 16)) (eF 13 1) (f2 aF (fA bS (fV 2 al)) (fI 20)) ρ=sF (.bl true):=λ{ρ} h2 h13=>by
  have e1:f2 aF (fA bS (fV 2 al)) (fI 16) ρ=sF (.int ((cF o M).length+16)):=dZ (.int (cF o M).length) (.int 16) (Ck h2) rfl rfl;have e2:f2 aF (fA bS (fV 2 al)) (fI 20) ρ=sF (.int ((cF o M).length+20)):=dZ (.int (cF o M).length) (.int 20) (Ck h2) rfl rfl;have l1:((cF o M).length+16:Int)<=p:=by omega
  have l2:(p:Int)<=((cF o M).length+20:Int):=by omega
  unfold cH;rw[e1,x1 h13,e2];generalize ((cF o M).length:Int)=q at l1 l2;simp[l1,l2]
 have last:∀ {ρ:DL.Env},ρ.length=15->ρ[5]? = some (sF (.str (zo o M)))->ay (mD (cK (fA aX (ag (fC .non) (ag (fI 3) (ag (fA aX (ag (fS ("0 root a a 0 open" : PySem.Str)) al)) (ag (fA j0 (ag (fS ("1 death 1 a" : PySem.Str)) al)) al)))))) (eC 14) nI)
   (aI (f2 eB (fA jt (ag (fA jQ (fV 5 al)) al)) (ah 5))) ρ=some (.rt (.bl true) false):=λ{ρ} hl h5=>by
  obtain⟨ρ',e,Pa⟩:=BR [.non,.int 3,.lst [.str ("0 root a a 0 open" : PySem.Str)],.tup [.str ("1 death 1 a" : PySem.Str)]] (by
   intro d hd;simp at hd;rcases hd with rfl|rfl|rfl|rfl<;>simp) ρ hl
  rw[h5]at Pa;refine iD (mq ?_ e) (aE (dZ (.str (zo o M)) (.str (zo o M)) (Q0 Pa) ?_ (by simp)))
  ·simp[sizeLine]
  ·simp[Pa]
 exact ar (bu (p:=false) (q:=false) (vj (dZ (.str "row") (.str "row") (x0 rfl) rfl (by simp))) λ_=>cr (p:=true) (vj (ch rfl rfl))) (last rfl rfl)
end Lw
namespace Lw
open PySem PySem.Spec PyProof.Rows L2 DL
noncomputable def e8 (i:Nat):Stmt:=PySem.Challenge.pw_sealchain_k49_lines_refused.main.body.getD i (.Pass ⟨0,0,0,0⟩)
noncomputable def iB (s:Stmt):Stmt:=match s with
 |.ClassDef _ _ _ b _ _ _ _ _ _ _=>b.getD 0 (.Pass ⟨0,0,0,0⟩)
 |_=>.Pass ⟨0,0,0,0⟩
structure FW (K:Frag)(x:PySem.Str)(st:Stmt)(C:Addr)(b c:Bool):Prop where
 raw:Raw K x st C
 se:∃S,PySem.W.nsIn K mainGlobals "SealError" = some (some (.ref S))/\PySem.W.exmOne K (.ref C) (.ref S)=some true
 ve:PySem.W.kitOne K (.ref C) (.type "ValueError")=some true
 nt:∃D,PySem.W.nsIn K mainGlobals "NoText" = some (some (.ref D))/\PySem.W.kitOne K (.ref C) (.ref D)=some b
 nr:∃D,PySem.W.nsIn K mainGlobals "NoRegister" = some (some (.ref D))/\PySem.W.kitOne K (.ref C) (.ref D)=some c
 nw:∃D,PySem.W.nsIn K mainGlobals "NoWord" = some (some (.ref D))/\PySem.W.kitOne K (.ref C) (.ref D)=some false
 nn:∃D,PySem.W.nsIn K mainGlobals "NoNumber" = some (some (.ref D))/\PySem.W.kitOne K (.ref C) (.ref D)=some false
structure Tx (w:World)(K:Frag)(mg:Str->Option Value):Prop where
 hX:∃h,K.In h/\h.Ns mainGlobals mg
 d0:dN K "is_whole" (e8 9)
 d1:dN K "is_day" (e8 10)
 d2:dN K "is_stretch" (e8 11)
 d3:dN K "is_matters" (e8 12)
 d4:dN K "is_name" (e8 22)
 d5:dN K "is_rule" (e8 24)
 d6:dN K "is_piece" (e8 23)
 d7:dN K "is_pieces" (e8 25)
 d8:dN K "is_change" (e8 26)
 d9:dN K "is_changes" (e8 27)
 d10:dN K "is_part" (e8 28)
 d11:dN K "is_deed" (e8 29)
 d12:dN K "word_of" (e8 32)
 d13:dN K "part_of" (e8 33)
 d14:dN K "day_of" (e8 34)
 d15:dN K "is_timely" (e8 30)
 d16:dN K "is_row" (e8 31)
 d17:dN K "root_offices" (e8 39)
 d18:dN K "is_second_root" (e8 40)
 d19:dN K "parts_in" (e8 35)
 d20:dN K "people_in" (e8 36)
 d21:dN K "count_people" (e8 41)
 d22:dN K "is_refused" (e8 42)
 d23:dN K "register_of" (e8 43)
 d24:dN K "is_figures" (e8 49)
 d25:dN K "number_of" (e8 50)
 d26:dN K "listed" (e8 13)
 d27:dN K "letters_of" (e8 51)
 d28:dN K "matters_of" (e8 52)
 d29:dN K "stop_of" (e8 53)
 d30:dN K "changes_of" (e8 54)
 d31:dN K "value_of" (e8 55)
 d32:dN K "count_words" (e8 56)
 d33:dN K "deed_of" (e8 57)
 d34:dN K "row_of" (e8 58)
 d35:dN K "read" (e8 59)
 d36:dN K "words_of" (e8 60)
 d37:dN K "line_of" (e8 61)
 d38:dN K "shown" (e8 62)
 d39:dN K "_law_cell" (e8 64)
 d40:dN K "_law_names" (e8 65)
 d41:dN K "_law_good" (e8 66)
 d42:dN K "_law_bad" (e8 67)
 d43:dN K "_law_looks" (e8 68)
 d44:dN K "_law_is" (e8 69)
 d45:dN K "law" (e8 70)
 cT:∃C,FW K "NoText" (iB (e8 3)) C true false
 cR:∃C,FW K "NoRegister" (iB (e8 2)) C false true
 nV:mg "ValueError" = none
 n0:mg "all" = none
 n1:mg "bool" = none
 n2:mg "enumerate" = none
 n3:mg "int" = none
 n4:mg "isinstance" = none
 n5:mg "len" = none
 n6:mg "list" = none
 n7:mg "range" = none
 n8:mg "set" = none
 n9:mg "sorted" = none
 n10:mg "str" = none
 n11:mg "tuple" = none
 n12:mg "zip" = none
 k0:KC K mg "ALL_MATTERS" j7
 k1:KC K mg "LAST_DAY" ny
 k2:KC K mg "MATTER_LETTERS" eJ
 k3:KC K mg "MOST_FIGURES" iX
 k4:KC K mg "MOST_FURTHER" iY
 k5:KC K mg "MOST_LETTERS" iZ
 k6:KC K mg "MOST_PEOPLE" j8
 k7:KC K mg "MOST_PIECES" eO
 k8:KC K mg "MOST_ROWS" de
 k9:KC K mg "NOTHING" c8
 k10:KC K mg "NUMBER_PARTS" bi
 k11:KD w K mg "PARTS" aY
 k12:KC K mg "PERSON_PARTS" df
 k13:KC K mg "RULES" xz
section
variable {P:Program}{w:World}{K:Frag}{mg:Str->Option Value}{base:Heap}(T:Tx w K mg)
include T
theorem f0:Fn P w K mg base 1 "is_whole" dJ:=T.d0.fq T.hX nA ["thing","least","most"] 3 λnd hr hu=>
  (bv (ia (aB aT T.n4 aM (bt 0 (ae (dM T.n3 rX) aj))) (ia (GL (aB aT T.n4 aM (bt 0 (ae (dM T.n1 Ao) aj)))) (fU (mH fW fW (af 1) (af 0) (af 2))))))
theorem f1:Fn P w K mg base 2 "is_day" ge:=T.d1.fq T.hX sZ ["thing"] 1 λnd hr hu=>
  (bv (bB (f0 T) hr (bt 0 (ng (ae (bG T.k1) aj)))))
theorem f2:Fn P w K mg base 3 "is_stretch" ej:=T.d2.fq T.hX kE ["thing"] 1 λnd hr hu=>
  (ak (br (gL (dz (bK (bH (aB aT T.n4 aM (bt 0 (ae (dM T.n11 cV) aj))))) (dz (aG (lU hu) (aB cz T.n5 cn (bt 0 aj)) aC) (cN (bK (bH (bB (f1 T) hr (ae (bg 0) aj)))))))) cZ)
   (bv (wL (dU yy (bg 0) bV) (fU (ia (bB (f1 T) hr (ae (bg 0) aj)) (fU (dU rV (bg 0) (bg 0))))))))
theorem f3:Fn P w K mg base 2 "is_matters" fD:=T.d3.fq T.hX kF ["thing"] 1 λnd hr hu=>
  (bv (bB (f0 T) hr (bt 0 (ng (ae (bG T.k0) aj)))))
theorem f4:Fn P w K mg base 1 "is_name" fN:=T.d4.fq T.hX pF ["thing"] 1 λnd hr hu=>
  (ak (br (gL (dz (bK (bH (aB aT T.n4 aM (bt 0 (ae (dM T.n10 iQ) aj))))) (cN (bK (ki fW fW aC (aB cz T.n5 cn (bt 0 aj)) (bG T.k5)))))) cZ)
   (bv (aB pd T.n0 pc (ae (gy ["sign"] (cI (af 0)) cM (mH fW fW ai (af 0) ai)) aj))))
theorem f5:Fn P w K mg base 1 "is_rule" pH:=T.d5.fq T.hX pG ["thing"] 1 λnd hr hu=>
  (bv (ia (aB aT T.n4 aM (bt 0 (ae (dM T.n10 iQ) aj))) (fU (dU rW (af 0) (bG T.k13)))))
theorem f6:Fn P w K mg base 2 "is_piece" gf:=T.d6.fq T.hX nB ["thing"] 1 λnd hr hu=>
  (bv (bc (f4 T) hr))
theorem f7:Fn P w K mg base 3 "is_pieces" gz:=T.d7.fq T.hX lJ ["thing"] 1 λnd hr hu=>
  (ak (br (gL (dz (bK (bH (aB aT T.n4 aM (bt 0 (ae (dM T.n11 cV) aj))))) (cN (bK (ki fW fW aC (aB cz T.n5 cn (bt 0 aj)) (bG T.k7)))))) cZ)
   (bv (aB pd T.n0 pc (ae (gy ["piece"] (cI (af 0)) cM (bc (f6 T) hr)) aj))))
theorem f8:Fn P w K mg base 3 "is_change" eV:=T.d8.fq T.hX lK ["thing"] 1 λnd hr hu=>
  (ak (br (gL (dz (bK (bH (aB aT T.n4 aM (bt 0 (ae (dM T.n11 cV) aj))))) (cN (aG (lU hu) (aB cz T.n5 cn (bt 0 aj)) aC)))) cZ)
   (bv (ia (bB (f0 T) hr (ae (bg 0) (ng (ae (ao EY (bG T.k7) aC) aj)))) (fU (bB (f6 T) hr (ae (bg 0) aj))))))
theorem f9:Fn P w K mg base 4 "is_changes" iq:=T.d9.fq T.hX kG ["thing","places"] 1 λnd hr hu=>
  (ak (br (gL (dz (bK (bH (aB aT T.n4 aM (bt 0 (ae (dM T.n11 cV) aj))))) (cN (bK (bH (aB pd T.n0 pc (ae (gy ["change"] (cI (af 0)) cM (bc (f8 T) hr)) aj))))))) cZ)
   (ak (mW ["change"] nd (cI (af 0)) cM (bg 0))
   (bv (aB pd T.n0 pc (ae (gy ["place","later"] (Az T.n12 (af 1) (cc (af 1) (c6 aC) cU)) cM (dU rV (af 0) (af 1))) aj)))))
theorem f10:Fn P w K mg base 5 "is_part" bf:=T.d10.fq T.hX pI ["part","thing"] 2 λnd hr hu=>
  (ak (br (gL (dz (aG (cB hu) (af 0) ai) (cN (aG (cB hu) (af 0) ai)))) (bc (f1 T) hr))
   (ak (br (gL (dz (aG (cB hu) (af 0) ai) (dz (aG (cB hu) (af 0) ai) (cN (aG (cB hu) (af 0) ai))))) (bc (f4 T) hr))
   (ak (br (aG (cB hu) (af 0) ai) (wL (dU yy (af 1) bV) (fU (bc (f4 T) hr))))
   (ak (br (aG (cB hu) (af 0) ai) (bc (f3 T) hr))
   (ak (br (aG (cB hu) (af 0) ai) (bc (f2 T) hr))
   (ak (br (aG (cB hu) (af 0) ai) (bB (f0 T) hr (bt 1 (ng (ae (bG T.k4) aj)))))
   (ak (br (aG (cB hu) (af 0) ai) (bc (f5 T) hr))
   (ak (br (aG (cB hu) (af 0) ai) (bB (f0 T) hr (bt 1 (ng (ae (ao EY (bG T.k8) aC) aj)))))
   (ak (br (aG (cB hu) (af 0) ai) (bc (f7 T) hr))
   (bv (bc (f9 T) hr)))))))))))
theorem f11:Fn P w K mg base 6 "is_deed" lw:=T.d11.fq T.hX pJ ["thing"] 1 λnd hr hu=>
  (ak (br (gL (dz (bK (bH (aB aT T.n4 aM (bt 0 (ae (dM T.n11 cV) aj))))) (dz (aG (cB hu) (aB cz T.n5 cn (bt 0 aj)) aC) (cN (bK (bH (aB aT T.n4 aM (ae (bg 0) (ae (dM T.n10 iQ) aj))))))))) cZ)
   (ak (br (gL (dz (p5 T.k11 (bg 0)) (cN (aG (lU hu) (aB cz T.n5 cn (bt 0 aj)) (ao aq aC (aB cz T.n5 cn (ae (mn T.k11 (bg 0)) aj))))))) cZ)
   (bv (aB pd T.n0 pc (ae (gy ["part","value"] (Az T.n12 (mn T.k11 (bg 0)) (cc (af 0) (c6 aC) cU)) cM (bc (f10 T) hr)) aj)))))
theorem Ik:Fn P w K mg base 1 "word_of" bQ:=T.d12.fq T.hX pK ["row"] 1 λnd hr hu=>
  (bv (eI (bg 0) aC))
theorem Mq:Fn P w K mg base 2 "part_of" dO:=T.d13.fq T.hX pL ["row","part"] 2 λnd hr hu=>
  (bv (eI (bg 0) (ao aq aC (Dz T.k11 (bc (Ik T) hr) (af 1)))))
theorem QK:Fn P w K mg base 3 "day_of" kH:=T.d14.fq T.hX td ["row"] 1 λnd hr hu=>
  (ak (br (aG (cB hu) (bc (Ik T) hr) ai) bV)
   (bv (bc (Mq T) hr)))
theorem QL:Fn P w K mg base 4 "is_timely" jd:=T.d15.fq T.hX lL ["row","day"] 1 λnd hr hu=>
  (ak (aH nd (bc (QK T) hr))
   (ak (br (aG yy (af 1) bV) cZ)
   (ak (br (gL (Ak (aG (cB hu) (bc (Ik T) hr) ai) (wK (aG rV (bc (Mq T) hr) (af 1))))) cZ)
   (bv (dU fW (af 1) (bg 0))))))
theorem Pw:Fn P w K mg base 7 "is_row" gU:=T.d16.fq T.hX tf ["thing"] 1 λnd hr hu=>
  (ak (br (gL (dz (bK (bH (aB aT T.n4 aM (bt 0 (ae (dM T.n11 cV) aj))))) (cN (aG (lU hu) (aB cz T.n5 cn (bt 0 aj)) aC)))) cZ)
   (bv (ia (bB (f1 T) hr (ae (bg 0) aj)) (ia (bB (f11 T) hr (ae (bg 0) aj)) (fU (bc (QL T) hr))))))
theorem QM:Fn P w K mg base 3 "root_offices" gg:=T.d17.fq T.hX je ["rows"] 1 λnd hr hu=>
  (bv (gy ["row"] (cI (af 0)) (uy (aG (cB hu) (bc (Ik T) hr) ai)) (bc (Mq T) hr)))
theorem QN:Fn P w K mg base 4 "is_second_root" eK:=T.d18.fq T.hX gV ["ahead","row"] 2 λnd hr hu=>
  (bv (ia (dU (cB hu) (bc (Ik T) hr) ai) (fU (dU rW (bc (Mq T) hr) (bc (QM T) hr)))))
theorem Px:Fn P w K mg base 2 "parts_in" dg:=T.d19.fq T.hX nD ["row"] 1 λnd hr hu=>
  (bv (uT rfl T.n6 T.n12 (mn T.k11 (bc (Ik T) hr)) (cc (bg 0) (c6 aC) cU)))
theorem QO:Fn P w K mg base 3 "people_in" dh:=T.d20.fq T.hX lM ["row","names"] 1 λnd hr hu=>
  (ak (mW ["part","value"] nd (cI (bc (Px T) hr)) (uy (gL (Ak (aG rW (af 0) (bG T.k12)) (wK (aG Dp (af 1) bV))))) (af 1))
   (bv (uJ rfl T.n9 T.n8 (af 1))))
theorem QP:Fn P w K mg base 4 "count_people" gi:=T.d21.fq T.hX jf ["rows","names","row"] 1 λnd hr hu=>
  (ak (aH nd (aN aj))
   (ak (sK (cI (af 0)) (AM 2 nd) fQ (cO (A3 (i:=1) (bc (QO T) hr))))
   (bv (yD rfl T.n5 T.n8 (af 1)))))
theorem Py:Fn P w K mg base 8 "is_refused" bq:=T.d22.fq T.hX kI ["book","place"] 2 λnd hr hu=>
  (ak (br (gL (dz (aG Nj (af 1) (bG T.k8)) (cN (bK (bH (bB (Pw T) hr (ae (eI (af 0) (af 1)) aj))))))) cZ)
   (bv (wL (bB (QN T) hr (ae (cc (af 0) cU (c6 (af 1))) (ae (eI (af 0) (af 1)) aj))) (fU (dU GP (bB (QP T) hr (ae (cc (af 0) cU (c6 (ao aq (af 1) aC))) aj)) (bG T.k6))))))
theorem QQ:Fn P w K mg base 9 "register_of" dD:=T.d23.fq T.hX j9 ["rows","book","place"] 1 λnd hr hu=>
  (ak (lG (bK (bH (aB p6 T.n4 aM (bt 0 (ae (ib (ae (dM T.n6 mK) (ae (dM T.n11 cV) aj))) aj))))) (cO kn) iO)
   (ak (aH nd (bD jo T.n11 cV (bt 0 aj)))
   (ak (AN (iR T.n7 (aB cz T.n5 cn (bt 1 aj))) (AM 2 nd) fQ (cO (lG (bH (bc (Py T) hr)) (cO kn) iO)))
   (cO (wM 1)))))
theorem NN {C:Addr}{b c:Bool}(c:FW K "NoRegister" (iB (e8 2)) C b c):FnX P w K mg base C "at" 9 "register_of" cL:=by
 have X1:Exc P w K mg base "NoRegister" C "at":=c.raw.exc T.hX;obtain⟨fI,fd,ps,i1,i2,i3,i4⟩:=X1.init;exact T.d23.fqX T.hX gx ["rows","book","place"] 1 λnd hr hu=>
  (dY (pA (bK (bH (aB p6 T.n4 aM (bt 0 (ae (ib (ae (dM T.n6 mK) (ae (dM T.n11 cV) aj))) aj))))) (gE (kz X1.ec i1 i2 i3 (hr.mono (by decide)) i4 X1.nm bV kA)) lv)
   (dY (vh (i:=1) nd (bD jo T.n11 cV (bt 0 aj)))
   (dY (DF KG rfl (iR T.n7 (aB cz T.n5 cn (bt 1 aj))) (AM 2 nd) fQ (gE (pA (bH (bc (Py T) hr)) (gE (kz X1.ec i1 i2 i3 (hr.mono (by decide)) i4 X1.nm (af 2) kA)) lv)))
   (gE ky))))
theorem QR:Fn P w K mg base 1 "is_figures" fE:=T.d24.fq T.hX kJ ["word"] 1 λnd hr hu=>
  (ak (br (gL (dz (bK (ki fW fW aC (aB cz T.n5 cn (bt 0 aj)) (bG T.k3))) (cN (bK (bH (aB pd T.n0 pc (ae (gy ["sign"] (cI (af 0)) cM (mH fW fW ai (af 0) ai)) aj))))))) cZ)
   (bv (wL (dU (cB hu) (af 0) ai) (fU (dU (lU hu) (bg 0) ai)))))
theorem Ld:Fn P w K mg base 2 "number_of" cw:=T.d25.fq T.hX lN ["word"] 1 λnd hr hu=>
  (bv (iL (bH (bc (QR T) hr)) (bD Hj T.n3 rX (bt 0 aj)) (EV Fc aC)))
theorem QS:Fn P w K mg base 1 "listed" tq:=T.d26.fq T.hX tm ["matters"] 1 λnd hr hu=>
  (bv (gy ["k","matters"] (mL T.n7 (Ds (af 0))) (uy (aG (cB hu) (ao Kg (ao Kf (af 1) (af 0)) aC) aC)) (af 0)))
theorem Pz:Fn P w K mg base 2 "letters_of" fF:=T.d27.fq T.hX kK ["matters"] 1 λnd hr hu=>
  (bv (dW PySem.F.slot_str_join PySem.F.type_str_join gC dB ai (gy ["k"] (cI (bc (QS T) hr)) cM (eI (bG T.k2) (af 0)))))
theorem QT:Fn P w K mg base 3 "matters_of" ir:=T.d28.fq T.hX kL ["word","matters","k","letter"] 1 λnd hr hu=>
  (ak (aH nd aC)
   (ak (sK (AT T.n2 (bG T.k2)) (qo rfl (eP (AM 2 nd) (eP (AM 3 nd) mi))) Fe (cO (lG (aG K6 (af 3) (af 0)) (cO (aH nd (ao Nv (af 1) (ao K4 aC (af 2))))) iO)))
   (bv (iL (aG (cB hu) (bc (Pz T) hr) (af 0)) (af 1) aC))))
theorem QU:Fn P w K mg base 3 "stop_of" lx:=T.d29.fq T.hX pO ["word"] 1 λnd hr hu=>
  (bv (iL (aG (cB hu) (af 0) (bG T.k9)) bV (bc (Ld T) hr)))
theorem QV:Fn P w K mg base 3 "changes_of" iu:=T.d30.fq T.hX kM ["words","pairs"] 1 λnd hr hu=>
  (ak (mW ["k","words"] nd (yN T.n7 aC (aB cz T.n5 cn (bt 0 aj)) aC) cM (cc (af 1) (c6 (af 0)) (c6 (ao aq (af 0) aC))))
   (bv (bD jo T.n11 cV (ae (gy ["pair"] (cI (af 1)) cM (bD jo T.n11 cV (ae (ao aq (aN (ae (bB (Ld T) hr (ae (bg 0) aj)) aj)) (cc (af 0) (c6 aC) cU)) aj))) aj))))
theorem QW:Fn P w K mg base 4 "value_of" eM:=T.d31.fq T.hX nE ["part","words"] 2 λnd hr hu=>
  (ak (br (aG rW (af 0) (bG T.k10)) (bB (Ld T) hr (ae (bg 1) aj)))
   (ak (br (aG (cB hu) (af 0) ai) (bB (QT T) hr (ae (bg 1) aj)))
   (ak (br (aG (cB hu) (af 0) ai) (ib (ae (bB (Ld T) hr (ae (bg 1) aj)) (ae (bB (QU T) hr (ae (bg 1) aj)) aj))))
   (ak (br (aG (cB hu) (af 0) ai) (iL (aG (cB hu) (bg 1) (bG T.k9)) bV (bg 1)))
   (ak (br (aG (cB hu) (af 0) ai) (bD jo T.n11 cV (bt 1 aj)))
   (ak (br (aG (cB hu) (af 0) ai) (bc (QV T) hr))
   (bv (bg 1))))))))
theorem QX:Fn P w K mg base 1 "count_words" dE:=T.d32.fq T.hX jA ["part","left"] 2 λnd hr hu=>
  (ak (br (aG (cB hu) (af 0) ai) aC)
   (ak (br (gL (dz (aG (cB hu) (af 0) ai) (cN (aG (cB hu) (af 0) ai)))) (aB cz T.n5 cn (bt 1 aj)))
   (bv aC)))
theorem QY:Fn P w K mg base 5 "deed_of" ly:=T.d33.fq T.hX pQ ["words","deed","left","part","count"] 1 λnd hr hu=>
  (ak (aH nd (cc (af 0) cU (c6 aC)))
   (ak (aH nd (cc (af 0) (c6 aC) cU))
   (ak (sK (cI (mn T.k11 (bg 0))) (AM 3 nd) fQ (ak (aH nd (bc (QX T) hr))
   (ak (br (aG GP (af 4) (aB cz T.n5 cn (bt 2 aj))) bV)
   (ak (uz (i:=1) (bB (QW T) hr (bt 3 (ae (cc (af 2) cU (c6 (af 4))) aj))))
   (cO (aH nd (cc (af 2) (c6 (af 4)) cU)))))))
   (bv (iL (aG (cB hu) (aB cz T.n5 cn (bt 2 aj)) aC) (bD jo T.n11 cV (bt 1 aj)) bV)))))
theorem NO:Fn P w K mg base 8 "row_of" e5:=T.d34.fq T.hX tt ["line","words","row"] 1 λnd hr hu=>
  (ak (aH nd (dW PySem.F.slot_str_split PySem.F.type_str_split mo jr (af 0) ai))
   (ak (br (gL (dz (aG rV (aB cz T.n5 cn (bt 1 aj)) aC) (cN (p5 T.k11 (bg 1))))) bV)
   (ak (aH nd (ib (ae (bB (Ld T) hr (ae (bg 1) aj)) (ae (bB (QY T) hr (ae (cc (af 1) (c6 aC) cU) aj)) aj))))
   (bv (iL (bH (bc (Pw T) hr)) (af 2) bV)))))
theorem P0:Fn P w K mg base 10 "read" jQ:=T.d35.fq T.hX Bn ["text","lines","rows"] 1 λnd hr hu=>
  (ak (lG (bK (bH (aB aT T.n4 aM (bt 0 (ae (dM T.n10 iQ) aj))))) (cO kn) iO)
   (ak (aH nd (iL (aG (lU hu) (af 0) ai) (dW PySem.F.slot_str_split PySem.F.type_str_split mo jr (af 0) ai) (aN aj)))
   (ak (mW ["line"] nd (cI (af 1)) cM (bc (NO T) hr))
   (ak (lG (aG (AQ hu) bV (af 2)) (cO kn) iO)
   (bv (bc (QQ T) hr))))))
theorem NP {C:Addr}{b c:Bool}(c:FW K "NoText" (iB (e8 3)) C b c):FnX P w K mg base C "at" 10 "read" l5:=by
 have X1:Exc P w K mg base "NoText" C "at":=c.raw.exc T.hX;obtain⟨fI,fd,ps,i1,i2,i3,i4⟩:=X1.init;exact T.d35.fqX T.hX gT ["text","lines","rows"] 1 λnd hr hu=>
  (dY (pA (bK (bH (aB aT T.n4 aM (bt 0 (ae (dM T.n10 iQ) aj))))) (gE (kz X1.ec i1 i2 i3 (hr.mono (by decide)) i4 X1.nm bV kA)) lv)
   (dY (vh (i:=1) nd (iL (aG (lU hu) (af 0) ai) (dW PySem.F.slot_str_split PySem.F.type_str_split mo jr (af 0) ai) (aN aj)))
   (dY (Ft (mW ["line"] nd (cI (af 1)) cM (bc (NO T) hr)) Bd)
   (dY (pA (aG (AQ hu) bV (af 2)) (gE (kz X1.ec i1 i2 i3 (hr.mono (by decide)) i4 X1.nm (Hv hu (af 2) bV) kA)) lv)
   (gE ky)))))
theorem NQ {C:Addr}{b c:Bool}(c:FW K "NoRegister" (iB (e8 2)) C b c):FnX P w K mg base C "at" 10 "read" vk :=
 T.d35.fqX T.hX gR ["text","lines","rows"] 1 λnd hr hu=>
  (dY (pA (bK (bH (aB aT T.n4 aM (bt 0 (ae (dM T.n10 iQ) aj))))) (gE ky) lv)
   (dY (vh (i:=1) nd (iL (aG (lU hu) (af 0) ai) (dW PySem.F.slot_str_split PySem.F.type_str_split mo jr (af 0) ai) (aN aj)))
   (dY (Ft (mW ["line"] nd (cI (af 1)) cM (bc (NO T) hr)) Bd)
   (dY (pA (aG (AQ hu) bV (af 2)) (gE ky) lv)
   (gE (DI (NN T c) hr EX.DH (bt 2 aj)))))))
theorem QZ:Fn P w K mg base 3 "words_of" di:=T.d36.fq T.hX nF ["part","value","ends"] 2 λnd hr hu=>
  (ak (br (aG (cB hu) (af 0) ai) (aN (ae (bc (Pz T) hr) aj)))
   (ak (br (aG (cB hu) (af 0) ai) (bD A1 T.n6 mK (bt 1 aj)))
   (ak (lG (gL (dz (aG (cB hu) (af 0) ai) (cN (aG (cB hu) (af 0) ai)))) (ak (aH nd (iL (aG (cB hu) (af 0) ai) (af 1) (ib (bt 1 aj))))
   (bv (gy ["each"] (cI (af 2)) cM (iL (aG yy (af 0) bV) (bG T.k9) (bD sL T.n10 iQ (bt 0 aj)))))) iO)
   (ak (br (aG (cB hu) (af 0) ai) (gy ["place","piece"] (cI (af 1)) cM (Hk (af 0) (af 1))))
   (bv (aN (ae (bD sL T.n10 iQ (bt 1 aj)) aj)))))))
theorem Ra:Fn P w K mg base 4 "line_of" js:=T.d37.fq T.hX pR ["row","words","part","value"] 1 λnd hr hu=>
  (ak (aH nd (aN (ae (bD sL T.n10 iQ (ae (bg 0) aj)) (ae (bc (Ik T) hr) aj))))
   (ak (sK (cI (bc (Px T) hr)) (qo rfl (eP (AM 2 nd) (eP (AM 3 nd) mi))) Fe (cO (A3 (i:=1) (bc (QZ T) hr))))
   (bv (dW PySem.F.slot_str_join PySem.F.type_str_join gC dB ai (af 1)))))
theorem P1:Fn P w K mg base 5 "shown" jt:=T.d38.fq T.hX xA ["book"] 1 λnd hr hu=>
  (bv (dW PySem.F.slot_str_join PySem.F.type_str_join gC dB ai (gy ["row"] (cI (af 0)) cM (bc (Ra T) hr))))
theorem Le:Fn P w K mg base 1 "_law_cell" e6:=T.d39.fq T.hX tu ["_law_script","_law_k","_law_number"] 2 λnd hr hu=>
  (ak (br (aG rV (af 1) (aB cz T.n5 cn (bt 0 aj))) (eI (af 0) (af 1)))
   (ak (aH nd (ao aq (ao jI aC (af 1)) aC))
   (ak (lG (aG GP (aB cz T.n5 cn (bt 0 aj)) aC) (cO (aH nd (ao aq (ao aq (ao jI (eI (af 0) (ao eG (ao jI (af 1) aC) (aB cz T.n5 cn (bt 0 aj)))) aC) (ao jI (ao jI (af 1) (af 1)) aC)) aC))) iO)
   (bv (ao eG (ao Hh (af 2) (af 2)) aC)))))
theorem Rb:Fn P w K mg base 1 "_law_names" l7:=T.d40.fq T.hX pU ["_law_cell_here","_law_letters","_law_base","_law_at","_law_names_here","_law_k","_law_name"] 1 λnd hr hu=>
  (ak (aH nd ai)
   (ak (mW ["_law_k","_law_letters","_law_cell_here"] nd (mL T.n7 (ao aq aC (ao eG (af 0) aC))) cM (eI (af 1) (ao eG (ao ig (af 2) (ao aq aC (ao jI aC (af 0)))) aC)))
   (ak (aH nd (ao eG (ao ig (af 0) aC) (aB cz T.n5 cn (bt 2 aj))))
   (ak (aH nd (aN aj))
   (ak (AN (iR T.n7 aC) (AM 5 nd) fQ (ak (aH nd (bD A1 T.n6 mK (bt 2 aj)))
   (ak (Hb (i:=6) (eI (af 1) (ao eG (ao aq (ao ig (af 0) aC) (ao jI aC (af 5))) aC)) (af 3))
   (cO (uz (i:=4) (dW PySem.F.slot_str_join PySem.F.type_str_join gC dB ai (af 6)))))))
   (cO (wM 4)))))))
theorem Rc:Fn P w K mg base 1 "_law_good" nH:=T.d41.fq T.hX tw ["_law_k","_law_cell_here","_law_names_here","_law_day","_law_noted","_law_one","_law_two","_law_some","_law_ahead"] 3 λnd hr hu=>
  (ak (aH nd (bD sL T.n10 iQ (ae (ao eG (af 1) aC) aj)))
   (ak (aH nd (bD sL T.n10 iQ (ae (ao aq (ao eG (af 1) aC) (ao eG (ao ig (af 1) aC) aC)) aj)))
   (ak (aH nd (eI (af 2) (ao eG (ao ig (af 1) aC) aC)))
   (ak (aH nd (eI (af 2) (ao eG (ao ig (af 1) aC) aC)))
   (ak (aH nd (aN (ae (ao aq (ao aq ai (bg 2)) ai) (ae (ao aq (ao aq (ao aq (ao aq (ao aq ai (af 3)) ai) (bg 2)) ai) (af 5)) aj))))
   (ak (aH nd (ao aq (ao aq (ao aq (ao aq (ao aq ai (af 3)) ai) (af 5)) ai) (bg 2)))
   (ak (aH nd (ao aq (af 7) (aN (ae (ao aq (ao aq (ao aq (ao aq (af 8) ai) (af 6)) ai) (af 4)) aj))))
   (ak (aH nd (ao aq (af 7) (aN (ae (ao aq (ao aq (ao aq (ao aq (ao aq (ao aq (ao aq ai (af 3)) ai) (af 5)) ai) (bg 2)) ai) (af 6)) aj))))
   (ak (aH nd (ao aq (af 7) (aN (ae (ao aq (ao aq (ao aq ai (af 3)) ai) (af 5)) aj))))
   (ak (aH nd (ao aq (af 7) (aN (ae (ao aq (ao aq (ao aq ai (af 3)) ai) (af 5)) (ae (ao aq (ao aq (ao aq ai (af 3)) ai) (af 6)) aj)))))
   (ak (aH nd (ao aq (af 7) (aN (ae (ao aq (ao aq (ao aq (ao aq (ao aq (ao aq ai (af 3)) ai) (af 5)) ai) (af 6)) ai) aj))))
   (ak (aH nd (ao aq (af 7) (aN (ae (ao aq (ao aq (ao aq (ao aq ai (af 3)) ai) (af 5)) ai) aj))))
   (ak (aH nd (ao aq (af 7) (aN (ae (ao aq (ao aq (ao aq (ao aq (ao aq (ao aq ai (af 3)) ai) (af 5)) ai) (af 6)) ai) aj))))
   (ak (aH nd (ao aq (af 7) (aN (ae (ao aq (ao aq (ao aq (ao aq ai (af 3)) ai) (af 6)) ai) aj))))
   (ak (aH nd (ao aq (af 7) (aN (ae (ao aq (ao aq (ao aq (ao aq ai (af 3)) ai) (af 5)) ai) aj))))
   (bv (ao aq (ao aq (af 4) ai) (eI (af 7) (ao eG (af 0) aC)))))))))))))))))))
theorem Re:Fn P w K mg base 1 "_law_bad" kN:=T.d42.fq T.hX xB ["_law_some"] 0 λnd hr hu=>
  (ak (aH nd (aN (ae ai (ae ai (ae ai (ae ai (ae ai (ae ai (ae ai (ae ai aj))))))))))
   (ak (aH nd (ao aq (af 0) (aN (ae ai (ae ai (ae ai (ae ai (ae ai aj))))))))
   (ak (aH nd (ao aq (af 0) (aN (ae ai (ae ai (ae ai (ae ai (ae ai aj))))))))
   (ak (aH nd (ao aq (af 0) (aN (ae ai (ae ai (ae ai (ae ai (ae ai aj))))))))
   (ak (aH nd (ao aq (af 0) (aN (ae ai (ae ai (ae ai (ae ai aj)))))))
   (ak (aH nd (ao aq (af 0) (aN (ae ai (ae ai (ae ai (ae ai aj)))))))
   (ak (aH nd (ao aq (af 0) (aN (ae ai (ae ai (ae ai (ae ai (ae ai aj))))))))
   (ak (aH nd (ao aq (af 0) (aN (ae ai (ae ai (ae ai (ae ai aj)))))))
   (ak (aH nd (ao aq (af 0) (aN (ae ai (ae ai (ae ai (ae ai aj)))))))
   (ak (aH nd (ao aq (af 0) (aN (ae ai (ae ai (ae ai aj))))))
   (ak (aH nd (ao aq (af 0) (aN (ae ai (ae ai (ae ai aj))))))
   (ak (aH nd (ao aq (af 0) (aN (ae ai (ae ai (ae ai aj))))))
   (ak (aH nd (ao aq (af 0) (aN (ae ai (ae ai (ae ai (ae ai aj)))))))
   (bv (ao aq (af 0) (aN (ae ai (ae ai (ae ai aj)))))))))))))))))))
noncomputable abbrev Mr:List PySem.Str:=["_law_thing","_law_looks_here","_law_at","e","_law_kind"]
theorem tX {nm:PySem.Str}{st:Stmt}{C:Addr}{b c:Bool}{kind:PySem.Str}{R:List D->OB}(cl:FW K nm st C b c)(F:FnX P w K mg base C "at" 10 "read" R)(hk:(b=true/\c=false/\kind = "text")∨(b=false/\c=true/\kind = "row"))
  {f:Addr}{cf:Value}{A:Around}{outer:List PySem.Env}{s:Shared}{H B:Hp}{E:XK}{vs:List V}{Q:VK}{th:D}{r:D×Bool}(nd:Mr.Nodup) (hr:cC 10 (A.deeper (envOfC "_law_looks" (ax (e8 68)) s.heap.objs.size f cf)))
  (sB:aQ B H/\Tb K B) (i:IsL K B vs [th]) (er:R [th]=some r) (q:Fin K B H (.tup [.str kind,r.1]) false Q):
  ∃t,lD (dG ml P w K mg base Mr "_law_looks" (ax (e8 68)) f cf A outer s H E) (bp (e8 68)) t/\t { nx:=λ_ H'=>Q .non H',rt:=Q } (L2.gv Mr vs) H:=by
 have ⟨_,KX,G⟩:=T.hX;have hu:=Dk hr;obtain⟨S,s1,s2⟩:=cl.se;obtain⟨D1,d1,e1⟩:=cl.nt;obtain⟨D2,d2,e2⟩:=cl.nr;obtain⟨D3,d3,e3⟩:=cl.nw;obtain⟨D4,d4,e4⟩:=cl.nn;have IC:∀(D:Addr) u',L2.aL (.ref D) u'->u'=Value.ref D:=λD u' h=>h;have Pb:∀(n:String) u',L2.aL (.ty n) u'->u'=Value.type n:=λn u' h=>h;have hm:=λ{x:PySem.Str}{D:Addr}(q:PySem.W.nsIn K mainGlobals x=some (some (.ref D)))=>mg_of KX G q;obtain⟨ad,fd,ps,F1,m1,k1,b1⟩:=F.ex;refine⟨_,dv (hW (i:=1) nd (by rfl) (by exact .inl rfl) (aN aj)) (dv (hW (i:=2) nd (by rfl) (by exact .inl rfl) (EV Fc aC))
  (dv (EX.DK (j:=3) (C:=C) (D:=S) (tb:=Pu K C "at" b c) F1 hr (by rfl) m1 k1 b1 (bI (dR (i:=0) (by rfl) (by exact .inl rfl)) dq) (by rfl) (by rfl) nd (by rfl) (by rfl) (λA' E'=>?suite) (by rfl) (hm s1) s2)
  (dv (w4 (aG (cB hu) (af 1) (aN aj)) (hV (la (ib (ae ai (ae bV aj))))) mh)
  (dv (hW (i:=4) nd (by rfl) (by exact .inl rfl) (eI (eI (aN (ae (aN (ae ai (ae ai aj))) (ae (aN (ae ai (ae ai aj))) aj))) (bD Fh T.n3 rX (ae (bg 1) aj))) (bD Fh T.n3 rX (ae (bg 1) aj))))
  (dv (w4 (gL (dz (aG (lU hu) (cc (af 1) (c6 aC) cU) (aN (ae cZ (ae cZ (ae cZ aj))))) (cN (aG rW (af 4) (ib (ae ai (ae ai aj))))))) (hV (la (ib (ae ai (ae bV aj))))) mh)
  (hV (la (zQ (bI (dR (i:=4) (by rfl) (by exact .inl rfl)) (bI (EX.KI cl.raw.ei cl.raw.na (dR (i:=2) (by rfl) (by exact .inl rfl))) dq)))))))))),?_⟩
 case suite=>
  exact dv (hW (i:=1) nd (by rfl) (by exact .inl rfl) (uo (bI (ni (i:=3) (name:="at") (v:=.ref D1) cl.raw.ei T.n4 (by rfl) (by exact .inl rfl) (gt (by rfl) (hm d1) rfl) (IC D1) e1) (bI (ni (i:=3) (name:="at") (v:=.ref D2) cl.raw.ei T.n4 (by rfl) (by exact .inl rfl) (gt (by rfl) (hm d2) rfl) (IC D2) e2) (bI (ni (i:=3) (name:="at") (v:=.ty "ValueError") cl.raw.ei T.n4 (by rfl) (by exact .inl rfl) (wx (by rfl) T.nV rfl rfl) (Pb _) cl.ve) dq)))))
   (dv (hW (i:=1) nd (by rfl) (by exact .inl rfl) (zM aq (dR (i:=1) (by rfl) (by exact .inl rfl)) (uo (bI (ni (i:=3) (name:="at") (v:=.ref D3) cl.raw.ei T.n4 (by rfl) (by exact .inl rfl) (gt (by rfl) (hm d3) rfl) (IC D3) e3) (bI (ni (i:=3) (name:="at") (v:=.ref D4) cl.raw.ei T.n4 (by rfl) (by exact .inl rfl) (gt (by rfl) (hm d4) rfl) (IC D4) e4) dq)))))
   (hV (hW (i:=2) nd (by rfl) (by exact .inl rfl) (dR (i:=3) (by rfl) (by exact .inl rfl)))))
 cases i with|cons i0 i=>?_
 cases i
 rename_i v0;refine⟨B,[],.lst [],true,sB.1,⟨sB.2,λi d b z=>nomatch z⟩,by simp,λv1 H1 N1 x1 j1 _=>?_⟩;refine⟨N1,[],.int (-1),false,x1.nh,⟨sB.2.mono x1.bn,λi d b z=>nomatch z⟩,rfl,λv2 H2 N2 x2 j2 _=>?_⟩;have Jk:=x1.trans x2;refine⟨v0,rfl,N2,[th],r.1,r.2,⟨x2.nh,sB.2.mono Jk.bn⟩,.cons (i0.mono Jk.bn) .nil,er,λv H' N x iv _ e dx t0 h1 h2 h3=>⟨dx,_,rfl,rfl,qQ h3,λe2 FN=>?_⟩⟩;have x3:=Jk.trans (x.trans (Ext.grow x.nh (yQ (t0:=t0) (C:=C) (name:="at") (v:=v) (u:=EX.XO e C (some dx)) h1 h2)));refine Hw (v:=v) x3.nh FN (qQ h3) λy H4 N4 x4 iy=>?_;refine Bh (L:=Bg b c) (kind:=kind) (b:=false) ?_ ?_ ?_ sB.2 (x3.trans x4) iy (iv.mono x4.bn) (x4.hh _ _ FN) (x4.hh _ _ (qQ h3)) q
 ·rcases hk with⟨rfl,rfl,rfl⟩|⟨rfl,rfl,rfl⟩<;>rfl
 ·rcases hk with⟨rfl,rfl,rfl⟩|⟨rfl,rfl,rfl⟩<;>rfl
 ·rcases hk with⟨rfl,rfl,rfl⟩|⟨rfl,rfl,rfl⟩<;>rfl
theorem IX:Fn P w K mg base 11 "_law_looks" aU:=by
 obtain⟨CT,cT⟩:=T.cT;obtain⟨CR,cR⟩:=T.cR;refine FnS.fn (T.d43.fqS (k:=10) T.hX Mr 1 ?len λ{f cf A outer s H E vs Q} nd hr h=>?_)
 case len=>
  rintro vs H Q E ⟨B,ds,d,b,_,i,e,_⟩
  rw[i.length]
  unfold aU at e
  split at e
  ·rfl
  ·cases e
 obtain⟨B,ds,d,b,sB,i,e,q⟩:=h;obtain⟨th,rfl⟩:∃th,ds=[th]:=by
  unfold aU at e;split at e
  ·exact⟨_,rfl⟩
  ·cases e
 unfold aU at e;dsimp only at e;cases e1:l5 [th] with
 |some r=>
  rw[e1]at e;cases e
  exact tX T cT (NP (P:=P) (w:=w) (base:=base) T cT) (.inl ⟨rfl,rfl,rfl⟩) nd hr sB i e1 q
 |none=>
  rw[e1]at e;obtain⟨r,e2,e⟩:=oY e;cases e
  exact tX T cR (NQ (P:=P) (w:=w) (base:=base) T cR) (.inr ⟨rfl,rfl,rfl⟩) nd hr sB i e2 q
theorem Lf:Fn P w K mg base 1 "_law_is" iz:=T.d44.fq T.hX Bo ["_law_found","_law_kind","_law_at"] 3 λnd hr hu=>
  (ak (br (gL (dz (aG (lU hu) (bg 0) (af 1)) (cN (bH (aB aT T.n4 aM (ae (bg 0) (ae (dM T.n1 Ao) aj))))))) cZ)
   (ak (br (aG yy (af 2) bV) (dU yy (bg 0) bV))
   (bv (ia (aB aT T.n4 aM (ae (bg 0) (ae (dM T.n3 rX) aj))) (fU (dU (cB hu) (bg 0) (af 2)))))))
theorem head {fa:Addr}(Oq:mg "law" = some (.ref fa)):∃fd:FuncData,(∀(s:Shared)(u:Value),BindsTo s fd ⟨[u],[]⟩ [("_law_script",u)])/\∀base:Heap,K.In base->base.Ns mainGlobals mg->fH P w K mg base ml 12 fa fd ["_law_script"] (Cr K F_law):=by
 have S:FnScope ["_law_script","_law_names_here","_law_lines","_law_k","_law_cell_here","_law_text","_law_some","_law_at","_law_bad_here","_law_twice","_law_both","_law_many","_law_long","_law_found","_law_thing"] ["_law_script"] (ax (e8 70)):=by refine⟨rfl,rfl,rfl,?_,rfl,?_,?_⟩<;>decide +kernel
 have ⟨h,X,G⟩:=T.hX;exact dN.law T.d45 X G Oq S (λ_ _ _ _ _ _ u=>rfl) λbase kb nb f cf A outer s H E hr=>have hu:=Dk hr;have nd:=S.nd;(show rg _ _ Fv from
  (ak (aH nd (bB (Rb T) hr (ae (bB (Le T) hr (bt 0 (ng aj))) aj)))
   (ak (aH nd (aN (ae (ao aq (ao aq ai (bg 1)) ai) aj)))
   (ak (AN (iR T.n7 (ao eG (bB (Le T) hr (bt 0 (ng aj))) aC)) (AM 3 nd) fQ (ak (aH nd (ao eG (bB (Le T) hr (bt 0 (ae (ao aq aC (af 3)) aj))) (ao Ke aC aC)))
   (cO (uz (i:=2) (bB (Rc T) hr (ae (ao aq aC (ao eG (ao ig (af 4) aC) aC)) (bt 4 (bt 1 aj))))))))
   (ak (aH nd (dW PySem.F.slot_str_join PySem.F.type_str_join gC dB ai (af 2)))
   (ak (br (aG (lU hu) (bB (P1 T) hr (ae (bc (P0 T) hr) aj)) (af 5)) cZ)
   (ak (aH nd (bB (Le T) hr (bt 0 (ng aj))))
   (ak (aH nd (KL (Re T) hr))
   (ak (aH nd (ao eG (ao ig (af 4) (aB cz T.n5 cn (bt 6 aj))) (ao aq (aB cz T.n5 cn (bt 2 aj)) aC)))
   (ak (aH nd (ao aq (ao aq (cc (af 2) cU (c6 (af 7))) (aN (ae (eI (af 6) (ao eG (af 4) (aB cz T.n5 cn (bt 6 aj)))) aj))) (cc (af 2) (c6 (af 7)) cU)))
   (ak (br (bK (bH (bB (Lf T) hr (ae (bB (IX T) hr (ae (dW PySem.F.slot_str_join PySem.F.type_str_join gC dB ai (af 8)) aj)) (ae ai (bt 7 aj)))))) cZ)
   (ak (aH nd (ao aq (af 2) (aN (ae (ao aq (ao aq ai (bg 1)) ai) aj))))
   (ak (br (bK (bH (bB (Lf T) hr (ae (bB (IX T) hr (ae (dW PySem.F.slot_str_join PySem.F.type_str_join gC dB ai (af 9)) aj)) (ae ai (ae (aB cz T.n5 cn (bt 2 aj)) aj)))))) cZ)
   (ak (aH nd (ao aq (af 9) (aN (ae (eI (af 6) (ao eG (ao ig (bB (Le T) hr (bt 0 (ng aj))) aC) (aB cz T.n5 cn (bt 6 aj)))) aj))))
   (ak (br (bK (bH (bB (Lf T) hr (ae (bB (IX T) hr (ae (dW PySem.F.slot_str_join PySem.F.type_str_join gC dB ai (af 10)) aj)) (ae ai (ae (ao aq (aB cz T.n5 cn (bt 2 aj)) aC) aj)))))) cZ)
   (ak (aH nd (ao aq (af 2) (gy ["_law_k"] (mL T.n7 aC) cM (ao aq (ao aq ai (eI ai (af 0))) ai))))
   (ak (aH nd (ao aq (af 2) (Hf (aN (ae (ao aq ai (bg 1)) aj)) aC)))
   (ak (br (bK (bH (bB (Lf T) hr (ae (bB (IX T) hr (ae (dW PySem.F.slot_str_join PySem.F.type_str_join gC dB ai (af 12)) aj)) (ae ai (ng aj)))))) cZ)
   (ak (aH nd (bB (IX T) hr (ae (dW PySem.F.slot_str_join PySem.F.type_str_join gC dB ai (af 11)) aj)))
   (ak (br (gL (dz (aG (lU hu) (bg 13) ai) (cN (bK (ki fW fW (ao aq (aB cz T.n5 cn (bt 2 aj)) aC) (bg 13) (ao aq (aB cz T.n5 cn (bt 2 aj)) aC)))))) cZ)
   (ak (sK (cI (aN (ae bV (ng (ae (aN (ae ai aj)) (ae (ib (ae ai aj)) aj)))))) (AM 14 nd) fQ (cO (br (bK (bH (bB (Lf T) hr (ae (bc (IX T) hr) (ae ai (ae bV aj)))))) cZ)))
   (bv (dU (cB hu) (bB (P1 T) hr (ae (bc (P0 T) hr) aj)) (af 5))))))))))))))))))))))))
end
open PySem.W (nsIn isClsIn typeIn subIn)
theorem clT_mk {K:Frag}{C S D1 D2 D3:Addr}(raw:Raw K "NoText" (iB (e8 3)) C)
  (a0:nsIn K mainGlobals "SealError" = some (some (.ref S))) (a1:isClsIn K S=true) (a2:typeIn K (.ref S)=some (.type "type")) (a3:subIn K (.ref C) (.ref S)=some true) (a4:subIn K (.ref S) (.type "BaseException")=some true)
  (b1:isClsIn K C=true) (b2:typeIn K (.ref C)=some (.type "type")) (b3:subIn K (.ref C) (.ref C)=some true) (v:subIn K (.ref C) (.type "ValueError")=some true)
  (c0:nsIn K mainGlobals "NoRegister" = some (some (.ref D1))) (c1:isClsIn K D1=true) (c2:typeIn K (.ref D1)=some (.type "type")) (c3:subIn K (.ref C) (.ref D1)=some false)
  (d0:nsIn K mainGlobals "NoWord" = some (some (.ref D2))) (d1:isClsIn K D2=true) (d2:typeIn K (.ref D2)=some (.type "type")) (d3:subIn K (.ref C) (.ref D2)=some false)
  (e0:nsIn K mainGlobals "NoNumber" = some (some (.ref D3))) (e1:isClsIn K D3=true) (e2:typeIn K (.ref D3)=some (.type "type")) (e3:subIn K (.ref C) (.ref D3)=some false):∃C,FW K "NoText" (iB (e8 3)) C true false :=
 ⟨C,raw,⟨S,a0,sS a1 a2 a3 a4⟩,Bb v,⟨C,raw.nm,sR b1 b2 b3⟩,⟨D1,c0,fL b3 c1 c2 c3⟩,⟨D2,d0,fL b3 d1 d2 d3⟩,⟨D3,e0,fL b3 e1 e2 e3⟩⟩
theorem clR_mk {K:Frag}{C S D1 D2 D3:Addr}(raw:Raw K "NoRegister" (iB (e8 2)) C)
  (a0:nsIn K mainGlobals "SealError" = some (some (.ref S))) (a1:isClsIn K S=true) (a2:typeIn K (.ref S)=some (.type "type")) (a3:subIn K (.ref C) (.ref S)=some true) (a4:subIn K (.ref S) (.type "BaseException")=some true)
  (b1:isClsIn K C=true) (b2:typeIn K (.ref C)=some (.type "type")) (b3:subIn K (.ref C) (.ref C)=some true) (v:subIn K (.ref C) (.type "ValueError")=some true)
  (c0:nsIn K mainGlobals "NoText" = some (some (.ref D1))) (c1:isClsIn K D1=true) (c2:typeIn K (.ref D1)=some (.type "type")) (c3:subIn K (.ref C) (.ref D1)=some false)
  (d0:nsIn K mainGlobals "NoWord" = some (some (.ref D2))) (d1:isClsIn K D2=true) (d2:typeIn K (.ref D2)=some (.type "type")) (d3:subIn K (.ref C) (.ref D2)=some false)
  (e0:nsIn K mainGlobals "NoNumber" = some (some (.ref D3))) (e1:isClsIn K D3=true) (e2:typeIn K (.ref D3)=some (.type "type")) (e3:subIn K (.ref C) (.ref D3)=some false):∃C,FW K "NoRegister" (iB (e8 2)) C false true :=
 ⟨C,raw,⟨S,a0,sS a1 a2 a3 a4⟩,Bb v,⟨D1,c0,fL b3 c1 c2 c3⟩,⟨C,raw.nm,sR b1 b2 b3⟩,⟨D2,d0,fL b3 d1 d2 d3⟩,⟨D3,e0,fL b3 e1 e2 e3⟩⟩
end Lw
end
namespace PySem.W.Fast
def tw14081803415901054300:=()
def tw2042794065721355925:=()
def tw17439874481760938145:=()
def tw14773165138345607408:=()
def tw13008067299851523163:=()
def tw7096026860757476940:=()
def tw14792669920354103474:=()
def tw14098456059242521108:=()
def tw1719276128023145131:=()
def tw8958591284497986353:=()
def tw11013599812776321043:=()
def tw7688735427113106281:=()
def tw16606189644492762100:=()
def tw4465791922463901789:=()
def tw5169003792840349366:=()
def tw12943539556997926383:=()
def tw7650044229438033137:=()
def tw16747893020273938590:=()
def tw15088821668109907242:=()
def tw7808430236587926067:=()
def tw8265621588096631857:=()
def tw10304346863824611288:=()
def tw2270940139489068777:=()
def tw4174950635909872683:=()
def tw9780353723411538090:=()
def tw8346821751838224954:=()
def tw14116768318403630296:=()
def tw640905205073554759:=()
def tw3427379362562240291:=()
def tw8204008540716002467:=()
def tw12420727966723429109:=()
def tw10220335391691738521:=()
def tw17624563542176399615:=()
def tw13373322774869619444:=()
def tw9938810526488645498:=()
def tw11622261686733287185:=()
def tw8820366473186881960:=()
def tw2721248156917780461:=()
def tw17450806130965137270:=()
def tw12654413258944594603:=()
def tw709182272172789479:=()
def tw5147975283821885659:=()
def tw11744716380573782500:=()
def tw1487430711720081254:=()
def tw4065368737757904688:=()
def tw1275990686490683345:=()
def tw3783975293090573917:=()
def tw241899560709508232:=()
def tw5477833016861833330:=()
def tw6963589306442446727:=()
def tw12930558877908510919:=()
def tw17111712983019746977:=()
def tw1560387937349233038:=()
def tw15045383156510597550:=()
def tw3660394277578372723:=()
def tw16159082610818062864:=()
def tw106625066846804507:=()
def tw9733073923498559523:=()
def tw15428040738594179345:=()
def tw8330283475110749069:=()
def tw4639246257945821179:=()
def tw16603004960003247571:=()
def tw1621380994438345752:=()
def tw14685967867387434881:=()
def tw2858453865207932953:=()
def tw4213520444096941848:=()
def tw7876835280707297001:=()
def tw6482501755633564975:=()
def tw13211620558285713522:=()
def tw10521240237295767808:=()
def tw629171239809358801:=()
def tw5655231089857142786:=()
def tw17799434074677557502:=()
def tw11970230288240096584:=()
def tw10321858563917515141:=()
def tw1598086103581995651:=()
def tw4863877090449256156:=()
def tw4366945584402967:=()
def tw9610702782983699088:=()
def tw3305217160433571958:=()
def tw5179823555417294479:=()
def tw13657163431010617832:=()
def tw17322187539193065616:=()
def tw13783978335346432227:=()
def tw4526477164445160023:=()
def tw7925453368200638713:=()
def tw15269709014643660942:=()
def tw8041012856611162021:=()
def tw14327896152818645392:=()
def tw16785236612592234236:=()
def tw1477064945287424086:=()
def tw3778159647844706008:=()
def tw17477746262237759814:=()
def tw5020293916805740738:=()
def tw3495353285268695084:=()
def tw17918884429481735907:=()
def tw13607462675228891060:=()
def tw9273962080455737669:=()
def tw3091222850102385835:=()
def tw9587819988257234767:=()
def tw13224276888231729241:=()
def tw7381512744589150723:=()
def tw15938016064641399921:=()
def tw17823802504031696951:=()
def tw17498522711899408586:=()
end PySem.W.Fast
open PySem PySem.W PyProof.Rows
set_option maxRecDepth 100000 in
set_option maxHeartbeats 0 in
theorem PySem.Challenge.cw_sealchain_k49_lines_refused_holds : PySem.Challenge.rw_sealchain_k49_lines_refused.Holds := by
 w_on; o_law; k_head; (case hw => w_witness2)
 k_fill
 refine' DL.walkB (l := PySem.Challenge.rw_sealchain_k49_lines_refused) (k := 12) (x := ("_law_script" : PySem.Str)) (f := Lw.F_law) (L := [(("in_order" : PySem.Str), ?t0), (("has_seal" : PySem.Str), ?t1), (("is_first_death" : PySem.Str), ?t2), (("bases_by" : PySem.Str), ?t3), (("as_heard" : PySem.Str), ?t4)]) rfl rfl ⟨rfl, by decide, by decide⟩ (fun w h Y => PySem.W.kIn_of Y) ?T ?D ?F Lw.law_true
 case T =>
  intro w
  refine' DL.tabs_fit ?h0 ?h1 ?h2 ?h3 ?h4 ?ap ?nt
  (case h0 => refine' DL.tab_no ?a; (case a => k_is))
  (case h1 => refine' DL.tab_no ?a; (case a => k_is))
  (case h2 => refine' DL.tab_no ?a; (case a => k_is))
  (case h3 => refine' DL.tab_no ?a; (case a => k_is))
  (case h4 => refine' DL.tab_no ?a; (case a => k_is))
  (case ap => decide)
  (case nt => kernel_rfl)
 case D => kernel_rfl
 case F =>
  intro w mg fa h KX G hmg
  refine' Lw.head ⟨⟨h, KX, G⟩, ?d0, ?d1, ?d2, ?d3, ?d4, ?d5, ?d6, ?d7, ?d8, ?d9, ?d10, ?d11, ?d12, ?d13, ?d14, ?d15, ?d16, ?d17, ?d18, ?d19, ?d20, ?d21, ?d22, ?d23, ?d24, ?d25, ?d26, ?d27, ?d28, ?d29, ?d30, ?d31, ?d32, ?d33, ?d34, ?d35, ?d36, ?d37, ?d38, ?d39, ?d40, ?d41, ?d42, ?d43, ?d44, ?d45, Lw.clT_mk ?xraw ?xa0 ?xa1 ?xa2 ?xa3 ?xa4 ?xb1 ?xb2 ?xb3 ?xv ?xc0 ?xc1 ?xc2 ?xc3 ?xd0 ?xd1 ?xd2 ?xd3 ?xe0 ?xe1 ?xe2 ?xe3, Lw.clR_mk ?yraw ?ya0 ?ya1 ?ya2 ?ya3 ?ya4 ?yb1 ?yb2 ?yb3 ?yv ?yc0 ?yc1 ?yc2 ?yc3 ?yd0 ?yd1 ?yd2 ?yd3 ?ye0 ?ye1 ?ye2 ?ye3, PySem.W.mg_none_of KX G ?zV, PySem.W.mg_none_of KX G ?z0, PySem.W.mg_none_of KX G ?z1, PySem.W.mg_none_of KX G ?z2, PySem.W.mg_none_of KX G ?z3, PySem.W.mg_none_of KX G ?z4, PySem.W.mg_none_of KX G ?z5, PySem.W.mg_none_of KX G ?z6, PySem.W.mg_none_of KX G ?z7, PySem.W.mg_none_of KX G ?z8, PySem.W.mg_none_of KX G ?z9, PySem.W.mg_none_of KX G ?z10, PySem.W.mg_none_of KX G ?z11, PySem.W.mg_none_of KX G ?z12, DL.kc_of KX G ?k0, DL.kc_of KX G ?k1, DL.kc_of KX G ?k2, DL.kc_of KX G ?k3, DL.kc_of KX G ?k4, DL.kc_of KX G ?k5, DL.kc_of KX G ?k6, DL.kc_of KX G ?k7, DL.kc_of KX G ?k8, DL.kc_of KX G ?k9, DL.kc_of KX G ?k10, DL.kd_of KX G ?k11, DL.kc_of KX G ?k12, DL.kc_of KX G ?k13⟩ hmg
  iterate 46 (refine' DL.def_mk ?a ?l ?c ?k; (case a => k_is); (case l => k_is); (case c => k_is); (case k => k_is))
  (case xraw => refine' DL.raw_mk ?a0 ?a1 ?a2 ?a3 ?a4 ?a5 ?a6 ?a7 ?a8 ?a9 ?b0 ?b1 ?b2 ?b3 ?b4 ?b5 ?b6 ?b7 ?b8; (case a0 => k_is); (case a1 => k_is); (case a2 => k_is); (case a3 => k_is); (case a4 => k_is); (case a5 => k_is); (case a6 => k_is); (case a7 => k_is); (case a8 => k_is); (case a9 => k_is); (case b0 => k_is); (case b1 => k_is); (case b2 => k_is); (case b3 => k_is); (case b4 => k_is); (case b5 => k_is); (case b6 => k_is); (case b7 => k_is); (case b8 => k_exc))
  (case xa0 => k_is)
  (case xa1 => k_is)
  (case xa2 => k_is)
  (case xa3 => k_is)
  (case xa4 => k_is)
  (case xb1 => k_is)
  (case xb2 => k_is)
  (case xb3 => k_is)
  (case xv => k_is)
  (case xc0 => k_is)
  (case xc1 => k_is)
  (case xc2 => k_is)
  (case xc3 => k_is)
  (case xd0 => k_is)
  (case xd1 => k_is)
  (case xd2 => k_is)
  (case xd3 => k_is)
  (case xe0 => k_is)
  (case xe1 => k_is)
  (case xe2 => k_is)
  (case xe3 => k_is)
  (case yraw => refine' DL.raw_mk ?a0 ?a1 ?a2 ?a3 ?a4 ?a5 ?a6 ?a7 ?a8 ?a9 ?b0 ?b1 ?b2 ?b3 ?b4 ?b5 ?b6 ?b7 ?b8; (case a0 => k_is); (case a1 => k_is); (case a2 => k_is); (case a3 => k_is); (case a4 => k_is); (case a5 => k_is); (case a6 => k_is); (case a7 => k_is); (case a8 => k_is); (case a9 => k_is); (case b0 => k_is); (case b1 => k_is); (case b2 => k_is); (case b3 => k_is); (case b4 => k_is); (case b5 => k_is); (case b6 => k_is); (case b7 => k_is); (case b8 => k_exc))
  (case ya0 => k_is)
  (case ya1 => k_is)
  (case ya2 => k_is)
  (case ya3 => k_is)
  (case ya4 => k_is)
  (case yb1 => k_is)
  (case yb2 => k_is)
  (case yb3 => k_is)
  (case yv => k_is)
  (case yc0 => k_is)
  (case yc1 => k_is)
  (case yc2 => k_is)
  (case yc3 => k_is)
  (case yd0 => k_is)
  (case yd1 => k_is)
  (case yd2 => k_is)
  (case yd3 => k_is)
  (case ye0 => k_is)
  (case ye1 => k_is)
  (case ye2 => k_is)
  (case ye3 => k_is)
  (case zV => k_is)
  (case z0 => k_is)
  (case z1 => k_is)
  (case z2 => k_is)
  (case z3 => k_is)
  (case z4 => k_is)
  (case z5 => k_is)
  (case z6 => k_is)
  (case z7 => k_is)
  (case z8 => k_is)
  (case z9 => k_is)
  (case z10 => k_is)
  (case z11 => k_is)
  (case z12 => k_is)
  (case k0 => refine' DL.const_int ?e; (case e => k_is))
  (case k1 => refine' DL.const_int ?e; (case e => k_is))
  (case k2 => refine' DL.const_str ?e; (case e => k_is))
  (case k3 => refine' DL.const_int ?e; (case e => k_is))
  (case k4 => refine' DL.const_int ?e; (case e => k_is))
  (case k5 => refine' DL.const_int ?e; (case e => k_is))
  (case k6 => refine' DL.const_int ?e; (case e => k_is))
  (case k7 => refine' DL.const_int ?e; (case e => k_is))
  (case k8 => refine' DL.const_int ?e; (case e => k_is))
  (case k9 => refine' DL.const_str ?e; (case e => k_is))
  (case k10 => refine' DL.const_tup ?e ?l ?v; (case e => k_is); (case l => k_is); (case v => decide +kernel))
  (case k11 => refine' DL.const_dict ?e ?l ?r ?s; (case e => k_is); (case l => k_is); (case r => refine' (DL.CRows.tup rfl ?l0 ?f0 (DL.CRows.tup rfl ?l1 ?f1 (DL.CRows.tup rfl ?l2 ?f2 (DL.CRows.tup rfl ?l3 ?f3 (DL.CRows.tup rfl ?l4 ?f4 (DL.CRows.tup rfl ?l5 ?f5 (DL.CRows.tup rfl ?l6 ?f6 (DL.CRows.tup rfl ?l7 ?f7 (DL.CRows.tup rfl ?l8 ?f8 (DL.CRows.tup rfl ?l9 ?f9 (DL.CRows.tup rfl ?l10 ?f10 (DL.CRows.tup rfl ?l11 ?f11 DL.CRows.nil)))))))))))); (case l0 => k_is); (case f0 => decide +kernel); (case l1 => k_is); (case f1 => decide +kernel); (case l2 => k_is); (case f2 => decide +kernel); (case l3 => k_is); (case f3 => decide +kernel); (case l4 => k_is); (case f4 => decide +kernel); (case l5 => k_is); (case f5 => decide +kernel); (case l6 => k_is); (case f6 => decide +kernel); (case l7 => k_is); (case f7 => decide +kernel); (case l8 => k_is); (case f8 => decide +kernel); (case l9 => k_is); (case f9 => decide +kernel); (case l10 => k_is); (case f10 => decide +kernel); (case l11 => k_is); (case f11 => decide +kernel)); (case s => decide +kernel))
  (case k12 => refine' DL.const_tup ?e ?l ?v; (case e => k_is); (case l => k_is); (case v => decide +kernel))
  (case k13 => refine' DL.const_tup ?e ?l ?v; (case e => k_is); (case l => k_is); (case v => decide +kernel))

